/- Trees as lists of numbers of kids: where a tree ends, its kids, how deep it is; by definition, and plain facts. The document's scanner as functions over lists of bytes, and plain facts on them. The walks of lex's isBlank, isLetter, isDigit, escape, unescape: their contracts. One step of a range over a string, and the walks of lex.skip, wordEnd, digitsEnd: their contracts. Contracts of the library, of the shelf, at this dump: the tables of numbers and what comes of them. Facts on rows of bytes that a call owns: a row's bytes as a string. Facts on memory that the disk's proofs share: drawn regions in a world of one name, ranges of cells, all but some blocks as they were. Tokens in blocks of their own, and the walks of lex.Key, Name, markSize: their contracts. A name for a text that stands elsewhere. Nodes in rows, as they were read; in blocks; parts of rows. The grammar as a machine over a row of tokens: what stands at the front is replaced, by the next token alone; and what so many of its steps lead to. No walk, and no condition but those that each states. No condition but those that each states. -/
import Derived.Lib.DecodeN
import Derived.Test.YtemlceicmpcboaaGreatDoorChecked
import Derived.ProofKit
import Derived.WalkKit
import Derived.Below
import Derived.Lib.OthersKept
import Derived.IntWalk
import Derived.Lib.Strings
import Derived.Lib.Hide
import Derived.WalkSmall
import Derived.Shelf.Strings.OnBuilder
import Derived.Shelf.Small.Strs
import Derived.Shelf.Strings.Prefix
import Derived.Shelf.Strconv.ErrVarParseInt
import Derived.Laws.IdiomStrings
import Derived.Laws.OwnMore
import Derived.Test.YtemlceicmpcboaaGreatDoorRows
import Derived.WalkLawsBesides
import Derived.WalkSpells
import Derived.ArgAppend
import Derived.Lib.SlBuf
import Derived.Deep.OwnRows
import Derived.Deep.QuietTactic
import Derived.Deep.MidRow
import Derived.Deep.AppendLies
import Derived.Deep.RegionHeld3
import Derived.Deep.DrawnRows
import Derived.Deep.Heap
import Derived.LaidEqlPtr
import Derived.BigQuiet
import Derived.StillTailTactics
import Derived.Maps.OwnSet
import Derived.Maps.Views
import Derived.Shelf.SlMaps.Clone
import Derived.ChangeSlices
import Derived.Deep.Slices
import Derived.Deep.Fields
import Derived.ChangeSame
namespace Go.Proofs.YtemlceicmpcboaaGreatDoor.Tr

/-- How many entries so many trees take at a list's beginning. -/
def endW : Nat → List Int → Option Nat
  | 0, _ => some 0
  | _ + 1, [] => none
  | w + 1, k :: r => if k < 0 then none else (endW (w + k.toNat) r).map (· + 1)

theorem endW_zero (l : List Int) : endW 0 l = some 0 := by cases l <;> rfl
theorem endW_cons (w : Nat) (k : Int) (r : List Int) : endW (w + 1) (k :: r) = if k < 0 then none else (endW (w + k.toNat) r).map (· + 1) := rfl

theorem endW_le : ∀ (l : List Int) (w n : Nat), endW w l = some n → w ≤ n ∧ n ≤ l.length
  | l, 0, n, h => by rw [endW_zero] at h; cases h; simp
  | [], w + 1, n, h => by cases h
  | k :: r, w + 1, n, h => by
    rw [endW_cons] at h
    split at h
    · cases h
    · cases hr : endW (w + k.toNat) r with
      | none => rw [hr] at h; cases h
      | some m =>
        rw [hr] at h
        cases h
        have := endW_le r _ _ hr
        simp only [List.length_cons]
        omega

theorem endW_add : ∀ (l : List Int) (a b : Nat), endW (a + b) l = (endW a l).bind fun n => (endW b (l.drop n)).map (n + ·)
  | l, 0, b => by
    rw [endW_zero, Nat.zero_add]
    show _ = (endW b (l.drop 0)).map _
    rw [List.drop_zero]
    cases endW b l <;> simp
  | [], a + 1, b => by
    rw [show a + 1 + b = (a + b) + 1 by omega]; rfl
  | k :: r, a + 1, b => by
    rw [show a + 1 + b = (a + b) + 1 by omega, endW_cons, endW_cons]
    split
    · rfl
    · rw [show a + b + k.toNat = a + k.toNat + b by omega, endW_add r]
      cases endW (a + k.toNat) r with
      | none => rfl
      | some m =>
        show ((endW b (r.drop m)).map (m + ·)).map (· + 1) = (endW b ((k :: r).drop (m + 1))).map (m + 1 + ·)
        rw [List.drop_succ_cons]
        cases endW b (r.drop m) with
        | none => rfl
        | some q => simp; omega

theorem endW_app : ∀ (l t : List Int) (w n : Nat), endW w l = some n → endW w (l ++ t) = some n
  | l, t, 0, n, h => by rw [endW_zero] at h ⊢; exact h
  | [], t, w + 1, n, h => by cases h
  | k :: r, t, w + 1, n, h => by
    rw [endW_cons] at h
    rw [List.cons_append, endW_cons]
    split at h
    · cases h
    · rename_i hk
      rw [if_neg hk]
      cases hr : endW (w + k.toNat) r with
      | none => rw [hr] at h; cases h
      | some m => rw [hr] at h; rw [endW_app r t _ _ hr]; exact h

theorem endW_take {l : List Int} {w n : Nat} (h : endW w l = some n) : endW w (l.take n) = some n := by
  revert n
  induction l generalizing w with
  | nil => intro n h; cases w with
    | zero => rw [endW_zero] at h ⊢; exact h
    | succ w => cases h
  | cons k r ih =>
    intro n h
    cases w with
    | zero => rw [endW_zero] at h ⊢; exact h
    | succ w =>
      rw [endW_cons] at h
      split at h
      · cases h
      · rename_i hk
        cases hr : endW (w + k.toNat) r with
        | none => rw [hr] at h; cases h
        | some m =>
          rw [hr] at h
          cases h
          rw [List.take_succ_cons, endW_cons, if_neg hk, ih hr]; rfl

/-- Of a list that a tree is the whole of, no other beginning is whole. -/
theorem endW_cut {l : List Int} {w n m : Nat} (h : endW w l = some n) (hm : m < n) (hml : m ≤ l.length) : endW w (l.take m) = none := by
  cases hc : endW w (l.take m) with
  | none => rfl
  | some q =>
    have h1 := endW_app _ (l.drop m) _ _ hc
    rw [List.take_append_drop, h] at h1
    cases h1
    have := (endW_le _ _ _ hc).2
    rw [List.length_take] at this
    omega

/-- Where the tree at a place ends, or -1. -/
def endI (ks : List Int) (i : Int) : Int := if i < 0 then -1 else match endW 1 (ks.drop i.toNat) with
  | some n => i + n
  | none => -1

theorem endI_none {ks : List Int} {i : Nat} (h : endW 1 (ks.drop i) = none) : endI ks (i : Int) = -1 := by
  unfold endI; rw [if_neg (by omega), Int.toNat_natCast, h]
theorem endI_some {ks : List Int} {i n : Nat} (h : endW 1 (ks.drop i) = some n) : endI ks (i : Int) = (i : Int) + n := by
  unfold endI; rw [if_neg (by omega), Int.toNat_natCast, h]
theorem endI_neg {ks : List Int} {i : Int} (h : i < 0) : endI ks i = -1 := by unfold endI; rw [if_pos h]
theorem endI_cases (ks : List Int) (i : Int) : endI ks i = -1 ∨ ∃ (k n : Nat), i = (k : Int) ∧ endW 1 (ks.drop k) = some n ∧ 1 ≤ n ∧ k + n ≤ ks.length ∧ endI ks i = (k : Int) + n := by
  by_cases h : i < 0
  · exact .inl (endI_neg h)
  · obtain ⟨k, rfl⟩ : ∃ k : Nat, i = (k : Int) := ⟨i.toNat, by omega⟩
    cases hn : endW 1 (ks.drop k) with
    | none => exact .inl (endI_none hn)
    | some n =>
      have := endW_le _ _ _ hn
      rw [List.length_drop] at this
      exact .inr ⟨k, n, rfl, hn, by omega, by omega, endI_some hn⟩

/-- What is left of a tree, behind its first node. -/
theorem endW_node {ks : List Int} {i n : Nat} (h : endW 1 (ks.drop i) = some n) : ∃ k, ks[i]? = some k ∧ 0 ≤ k ∧ endW k.toNat (ks.drop (i + 1)) = some (n - 1) ∧ 1 ≤ n := by
  have hlt : i < ks.length := by have := endW_le _ _ _ h; rw [List.length_drop] at this; omega
  rw [List.drop_eq_getElem_cons hlt, show (1 : Nat) = 0 + 1 from rfl, endW_cons] at h
  split at h
  · cases h
  · rename_i hk
    rw [Nat.zero_add] at h
    cases hr : endW (ks[i]).toNat (ks.drop (i + 1)) with
    | none => rw [hr] at h; cases h
    | some m =>
      rw [hr] at h
      obtain rfl : m + 1 = n := Option.some.inj h
      exact ⟨_, List.getElem?_eq_getElem hlt, by omega, by rw [hr]; rfl, by omega⟩

/-- How many nodes the tree at a place has. -/
def sz (ks : List Int) (p : Nat) : Nat := (endW 1 (ks.drop p)).getD 0
/-- The place of the so-manieth tree from a place on. -/
def pos (ks : List Int) (p : Nat) : Nat → Nat
  | 0 => p
  | j + 1 => pos ks p j + sz ks (pos ks p j)
theorem pos_succ (ks : List Int) (p j : Nat) : pos ks p (j + 1) = pos ks p j + sz ks (pos ks p j) := rfl

theorem pos_at {ks : List Int} {p c n : Nat} (h : endW c (ks.drop p) = some n) : ∀ j, j ≤ c → pos ks p j ≤ p + n ∧ endW (c - j) (ks.drop (pos ks p j)) = some (p + n - pos ks p j) ∧ p + j ≤ pos ks p j
  | 0, _ => ⟨by show p ≤ _; omega, by show endW c (ks.drop p) = some (p + n - p); rw [h, Nat.add_sub_cancel_left], Nat.le_refl _⟩
  | j + 1, hj => by
    obtain ⟨h1, h2, h3⟩ := pos_at h j (by omega)
    rw [show c - j = 1 + (c - (j + 1)) by omega, endW_add] at h2
    cases hm : endW 1 (ks.drop (pos ks p j)) with
    | none => rw [hm] at h2; cases h2
    | some m =>
      rw [hm] at h2
      have hz : sz ks (pos ks p j) = m := by unfold sz; rw [hm]; rfl
      have hm1 := (endW_le _ _ _ hm).1
      rw [pos_succ, hz]
      simp only [Option.bind_some, List.drop_drop] at h2
      cases hr : endW (c - (j + 1)) (ks.drop (pos ks p j + m)) with
      | none => rw [hr] at h2; cases h2
      | some q =>
        rw [hr] at h2
        simp only [Option.map_some, Option.some.injEq] at h2
        refine ⟨by omega, by congr 1; omega, by omega⟩

/-- A kid's tree is whole. -/
theorem pos_tree {ks : List Int} {p c n : Nat} (h : endW c (ks.drop p) = some n) {j : Nat} (hj : j < c) : ∃ m, endW 1 (ks.drop (pos ks p j)) = some m ∧ 1 ≤ m ∧ pos ks p (j + 1) = pos ks p j + m ∧ pos ks p j + m ≤ p + n := by
  obtain ⟨h1, h2, h3⟩ := pos_at h j (by omega)
  obtain ⟨g1, -, -⟩ := pos_at h (j + 1) (by omega)
  rw [show c - j = 1 + (c - (j + 1)) by omega, endW_add] at h2
  cases hm : endW 1 (ks.drop (pos ks p j)) with
  | none => rw [hm] at h2; cases h2
  | some m =>
    have hz : sz ks (pos ks p j) = m := by unfold sz; rw [hm]; rfl
    rw [pos_succ, hz] at g1
    exact ⟨m, rfl, (endW_le _ _ _ hm).1, by rw [pos_succ, hz], g1⟩
theorem pos_end {ks : List Int} {p c n : Nat} (h : endW c (ks.drop p) = some n) : pos ks p c = p + n := by
  obtain ⟨h1, h2, h3⟩ := pos_at h c (Nat.le_refl _)
  rw [Nat.sub_self, endW_zero] at h2
  have := Option.some.inj h2
  omega
theorem pos_lt {ks : List Int} {p c n : Nat} (h : endW c (ks.drop p) = some n) {j : Nat} (hj : j < c) : pos ks p j < p + n := by
  obtain ⟨m, h1, h2, h3, h4⟩ := pos_tree h hj
  omega

/-- The places of the kids of the node at i. -/
def kidsL (ks : List Int) (i : Int) : List Nat := if endI ks i < 0 then [] else (List.range (ks.getD i.toNat 0).toNat).map (pos ks (i.toNat + 1))

theorem kidsL_none {ks : List Int} {i : Int} (h : endI ks i < 0) : kidsL ks i = [] := if_pos h
theorem kidsL_some {ks : List Int} {i n : Nat} {k : Int} (h : endW 1 (ks.drop i) = some n) (hk : ks[i]? = some k) : kidsL ks (i : Int) = (List.range k.toNat).map (pos ks (i + 1)) := by
  unfold kidsL
  rw [endI_some h, if_neg (by omega), Int.toNat_natCast]
  simp [hk]

/-! how deep -/
/-- Of the nodes around, what is behind a node that has all its kids. -/
def norm : List Nat → List Nat
  | [] => []
  | 0 :: o => norm o
  | (c + 1) :: o => c :: o

/-- How deep the nodes are, within nodes of which so many kids are still to come, each. -/
def depP : List Nat → Nat → List Int → Option Nat
  | o, m, [] => if o = [] then some m else none
  | o, m, k :: r => if k < 0 then none else depP (norm (k.toNat :: o)) (max m (o.length + 1)) r

theorem depP_nil (o : List Nat) (m : Nat) : depP o m [] = if o = [] then some m else none := rfl
theorem depP_cons (o : List Nat) (m : Nat) (k : Int) (r : List Int) : depP o m (k :: r) = if k < 0 then none else depP (norm (k.toNat :: o)) (max m (o.length + 1)) r := rfl

def depI (ks : List Int) : Int := match depP [] 0 ks with
  | some d => (d : Int)
  | none => -1

theorem norm_len : ∀ o : List Nat, (norm o).length ≤ o.length
  | [] => Nat.le_refl _
  | 0 :: o => by have := norm_len o; show (norm o).length ≤ o.length + 1; omega
  | (c + 1) :: o => Nat.le_refl _

/-- How many trees are still to come. -/
def tot : List Nat → Nat
  | [] => 0
  | c :: o => 1 + (c :: o).sum

theorem tot_norm : ∀ o : List Nat, tot (norm o) = o.sum
  | [] => rfl
  | 0 :: o => by show tot (norm o) = _; rw [tot_norm o]; simp
  | (c + 1) :: o => by show 1 + (c :: o).sum = _; simp; omega

theorem endW_le_none {a b : Nat} {l : List Int} (h : endW a l = none) : endW (a + b) l = none := by rw [endW_add, h]; rfl

/-- Where the depth is told each tree is whole. -/
theorem depP_some : ∀ (l : List Int) (o : List Nat) (m d : Nat), depP o m l = some d → endW (tot o) l ≠ none ∧ ∀ j, j < l.length → endW 1 (l.drop j) ≠ none
  | [], o, m, d, h => by
    rw [depP_nil] at h
    split at h
    · rename_i ho; subst ho; exact ⟨by simp [tot, endW], fun j hj => by simp at hj⟩
    · cases h
  | k :: r, o, m, d, h => by
    rw [depP_cons] at h
    split at h
    · cases h
    · rename_i hk
      obtain ⟨h1, h2⟩ := depP_some r _ _ _ h
      rw [tot_norm, List.sum_cons] at h1
      refine ⟨?_, fun j hj => ?_⟩
      · cases o with
        | nil => simp [tot, endW_zero]
        | cons c o =>
          show endW (1 + (c :: o).sum) (k :: r) ≠ none
          rw [show 1 + (c :: o).sum = (c :: o).sum + 1 by omega, endW_cons, if_neg hk, show (c :: o).sum + k.toNat = k.toNat + (c :: o).sum by omega]
          intro e
          cases hq : endW (k.toNat + (c :: o).sum) r with
          | none => exact h1 hq
          | some q => rw [hq] at e; cases e
      · cases j with
        | succ j => rw [List.drop_succ_cons]; exact h2 j (by simpa using hj)
        | zero =>
          rw [List.drop_zero, show (1 : Nat) = 0 + 1 from rfl, endW_cons, if_neg hk, Nat.zero_add]
          intro e
          cases hq : endW k.toNat r with
          | none => exact h1 (endW_le_none hq)
          | some q => rw [hq] at e; cases e

/-- Where it isn't, a tree is not whole. -/
theorem depP_none : ∀ (l : List Int) (o : List Nat) (m : Nat), depP o m l = none → endW (tot o) l = none ∨ ∃ j, j < l.length ∧ endW 1 (l.drop j) = none
  | [], o, m, h => by
    rw [depP_nil] at h
    split at h
    · cases h
    · rename_i ho
      cases o with
      | nil => exact absurd rfl ho
      | cons c o => left; show endW (1 + (c :: o).sum) [] = none; rw [Nat.add_comm]; rfl
  | k :: r, o, m, h => by
    rw [depP_cons] at h
    split at h
    · rename_i hk
      exact .inr ⟨0, by simp, by rw [List.drop_zero, show (1 : Nat) = 0 + 1 from rfl, endW_cons, if_pos hk]⟩
    · rename_i hk
      rcases depP_none r _ _ h with h1 | ⟨j, hj, h1⟩
      · rw [tot_norm, List.sum_cons, endW_add] at h1
        cases hq : endW k.toNat r with
        | none => exact .inr ⟨0, by simp, by rw [List.drop_zero, show (1 : Nat) = 0 + 1 from rfl, endW_cons, if_neg hk, Nat.zero_add, hq]; rfl⟩
        | some q =>
          rw [hq] at h1
          cases o with
          | nil => rw [List.sum_nil] at h1; simp [endW_zero] at h1
          | cons c o =>
            left
            show endW (1 + (c :: o).sum) (k :: r) = none
            rw [show 1 + (c :: o).sum = (c :: o).sum + 1 by omega, endW_cons, if_neg hk, show (c :: o).sum + k.toNat = k.toNat + (c :: o).sum by omega, endW_add, hq]
            show Option.map _ (Option.bind (some q) _) = none
            rw [h1]; rfl
      · exact .inr ⟨j + 1, by simpa using hj, by rw [List.drop_succ_cons]; exact h1⟩

/-- Trees, gone through within others. -/
theorem forest (N : Nat) : ∀ (T : List Int), T.length ≤ N →
    (endW 1 T = some T.length → ∃ d, 1 ≤ d ∧ ∀ o m r, depP o m (T ++ r) = depP (norm o) (max m (o.length + d)) r) ∧
    ∀ c, endW (c + 1) T = some T.length → ∃ d, 1 ≤ d ∧ ∀ o m r, depP (c :: o) m (T ++ r) = depP (norm o) (max m (o.length + 1 + d)) r := by
  induction N with
  | zero =>
    intro T hT
    obtain rfl : T = [] := List.eq_nil_of_length_eq_zero (by omega)
    exact ⟨fun h => (by cases h), fun c h => (by cases h)⟩
  | succ N ih =>
    intro T hT
    have tree : endW 1 T = some T.length → ∃ d, 1 ≤ d ∧ ∀ o m r, depP o m (T ++ r) = depP (norm o) (max m (o.length + d)) r := by
      intro h
      cases T with
      | nil => cases h
      | cons k F =>
        rw [show (1 : Nat) = 0 + 1 from rfl, endW_cons] at h
        split at h
        · cases h
        · rename_i hk
          rw [Nat.zero_add] at h
          cases hF : endW k.toNat F with
          | none => rw [hF] at h; cases h
          | some q =>
            rw [hF] at h
            simp at h
            subst h
            obtain ⟨c, hc⟩ : ∃ c, c = k.toNat := ⟨_, rfl⟩
            rw [← hc] at hF
            cases c with
            | zero =>
              rw [endW_zero] at hF
              obtain rfl : F = [] := List.eq_nil_of_length_eq_zero (by have := Option.some.inj hF; omega)
              refine ⟨1, Nat.le_refl _, fun o m r => ?_⟩
              rw [List.cons_append, depP_cons, if_neg hk, ← hc]; rfl
            | succ c =>
              obtain ⟨d, hd, H⟩ := (ih F (by simpa using hT)).2 c hF
              refine ⟨d + 1, by omega, fun o m r => ?_⟩
              rw [List.cons_append, depP_cons, if_neg hk, ← hc]
              show depP (c :: o) _ _ = _
              rw [H]
              congr 1
              omega
    refine ⟨tree, fun c h => ?_⟩
    cases c with
    | zero =>
      obtain ⟨d, hd, H⟩ := tree h
      refine ⟨d, hd, fun o m r => ?_⟩
      rw [H]; rfl
    | succ c =>
      have h' := h
      rw [show c + 1 + 1 = 1 + (c + 1) by omega, endW_add] at h
      cases h1 : endW 1 T with
      | none => rw [h1] at h; cases h
      | some n =>
        rw [h1] at h
        have hn := endW_le _ _ _ h1
        have e : T.take n ++ T.drop n = T := List.take_append_drop n T
        have l1 : (T.take n).length = n := by rw [List.length_take]; omega
        have l2 : (T.drop n).length = T.length - n := List.length_drop
        have hrest : endW (c + 1) (T.drop n) = some (T.drop n).length := by
          cases h2 : endW (c + 1) (T.drop n) with
          | none => rw [Option.bind_some, h2] at h; cases h
          | some q => rw [Option.bind_some, h2] at h; simp at h; rw [l2]; congr 1; omega
        have hqle := endW_le _ _ _ hrest
        have t1 := endW_take h1
        obtain ⟨d1, g1, H1⟩ := (ih (T.take n) (by rw [l1]; omega)).1 (by rw [l1]; exact t1)
        obtain ⟨d2, g2, H2⟩ := (ih (T.drop n) (by omega)).2 c hrest
        refine ⟨max d1 d2, by omega, fun o m r => ?_⟩
        conv => lhs; rw [← e, List.append_assoc, H1]
        show depP (c :: o) _ _ = _
        rw [H2]
        congr 1
        simp only [List.length_cons]
        omega

/-- A tree's depth, and what it does within others. -/
theorem tree_depth {T : List Int} (h : endW 1 T = some T.length) : ∃ d, 1 ≤ d ∧ depP [] 0 T = some d ∧ ∀ o m r, depP o m (T ++ r) = depP (norm o) (max m (o.length + d)) r := by
  obtain ⟨d, hd, H⟩ := (forest T.length T (Nat.le_refl _)).1 h
  refine ⟨d, hd, ?_, H⟩
  have := H [] 0 []
  rw [List.append_nil] at this
  rw [this]
  show depP [] _ [] = _
  rw [depP_nil, if_pos rfl]
  simp

/-- The nodes of a tree at a place. -/
def part (ks : List Int) (p n : Nat) : List Int := (ks.drop p).take n

theorem part_whole {ks : List Int} {p n : Nat} (h : endW 1 (ks.drop p) = some n) : endW 1 (part ks p n) = some (part ks p n).length := by
  have := endW_le _ _ _ h
  have e : (part ks p n).length = n := by unfold part; rw [List.length_take]; omega
  rw [e]; exact endW_take h

/-- The depth of a node's tree by those of its kids: behind j of them. -/
theorem kids_depth {ks : List Int} {i n : Nat} (h : endW 1 (ks.drop i) = some n) {k : Int} (hk : ks[i]? = some k) {d : Nat} (hd : depP [] 0 (part ks i n) = some d) :
    ∃ most : Nat → Nat, most 0 = 0 ∧ (∀ j, j < k.toNat → ∃ dj, depP [] 0 (part ks (pos ks (i + 1) j) (sz ks (pos ks (i + 1) j))) = some dj ∧ most (j + 1) = max (most j) dj) ∧ d = most k.toNat + 1 := by
  obtain ⟨k', e1, hk0, hF, hn1⟩ := endW_node h
  rw [hk] at e1
  cases e1
  obtain ⟨c, hc⟩ : ∃ c, c = k.toNat := ⟨_, rfl⟩
  rw [← hc] at hF ⊢
  have hlt : i < ks.length := by have := (List.getElem?_eq_some_iff.1 hk).1; exact this
  refine ⟨fun j => Nat.rec 0 (fun j m => max m ((depP [] 0 (part ks (pos ks (i + 1) j) (sz ks (pos ks (i + 1) j)))).getD 0)) j, rfl, ?_, ?_⟩
  · intro j hj
    obtain ⟨m, t1, t2, t3, t4⟩ := pos_tree hF hj
    have hz : sz ks (pos ks (i + 1) j) = m := by unfold sz; rw [t1]; rfl
    rw [hz]
    obtain ⟨dj, q1, q2, q3⟩ := tree_depth (part_whole t1)
    refine ⟨dj, q2, ?_⟩
    show max _ ((depP [] 0 (part ks (pos ks (i + 1) j) (sz ks (pos ks (i + 1) j)))).getD 0) = _
    rw [hz, q2]; rfl
  · generalize hmost : (fun j => Nat.rec 0 (fun j m => max m ((depP [] 0 (part ks (pos ks (i + 1) j) (sz ks (pos ks (i + 1) j)))).getD 0)) j : Nat → Nat) = most
    have m0 : most 0 = 0 := by rw [← hmost]; rfl
    have ms : ∀ j, most (j + 1) = max (most j) ((depP [] 0 (part ks (pos ks (i + 1) j) (sz ks (pos ks (i + 1) j)))).getD 0) := fun j => by rw [← hmost]
    have ep : part ks i n = k :: part ks (i + 1) (n - 1) := by
      obtain ⟨n', rfl⟩ : ∃ n', n = n' + 1 := ⟨n - 1, by omega⟩
      unfold part
      rw [List.drop_eq_getElem_cons hlt, List.take_succ_cons, Nat.add_sub_cancel]
      rw [List.getElem?_eq_getElem hlt] at hk
      rw [Option.some.inj hk]
    have key : ∀ j, j ≤ c → depP [] 0 (part ks i n) = depP (norm [c - j]) (1 + most j) (part ks (pos ks (i + 1) j) (i + n - pos ks (i + 1) j)) := by
      intro j
      induction j with
      | zero =>
        intro _
        rw [ep, depP_cons, if_neg (by omega), ← hc, m0]
        show depP (norm [c]) _ _ = depP (norm [c]) _ (part ks (i + 1) (i + n - (i + 1)))
        rw [show i + n - (i + 1) = n - 1 by omega]
        rfl
      | succ j ihj =>
        intro hj
        rw [ihj (by omega)]
        obtain ⟨m, t1, t2, t3, t4⟩ := pos_tree hF (show j < c by omega)
        have hz : sz ks (pos ks (i + 1) j) = m := by unfold sz; rw [t1]; rfl
        obtain ⟨dj, q1, q2, q3⟩ := tree_depth (part_whole t1)
        have es : part ks (pos ks (i + 1) j) (i + n - pos ks (i + 1) j) = part ks (pos ks (i + 1) j) m ++ part ks (pos ks (i + 1) (j + 1)) (i + n - pos ks (i + 1) (j + 1)) := by
          unfold part
          rw [t3, ← List.drop_drop]
          generalize ks.drop (pos ks (i + 1) j) = L
          rw [show i + n - pos ks (i + 1) j = m + (i + n - (pos ks (i + 1) j + m)) by omega, List.take_add]
        rw [es, show c - j = (c - (j + 1)) + 1 by omega]
        show depP [c - (j + 1)] _ _ = _
        rw [q3, ms, hz, q2]
        congr 1
        simp only [List.length_cons, List.length_nil, Option.getD_some]
        omega
    have := key c (Nat.le_refl _)
    rw [hd, Nat.sub_self, pos_end hF] at this
    rw [show i + n - (i + 1 + (n - 1)) = 0 by omega] at this
    rw [show part ks (i + 1 + (n - 1)) 0 = [] by unfold part; simp] at this
    have e2 : some d = some (1 + most c) := this
    have := Option.some.inj e2
    omega

end Go.Proofs.YtemlceicmpcboaaGreatDoor.Tr
namespace Go.Proofs.YtemlceicmpcboaaGreatDoor.Lx

/-! the bytes -/
def rL (r : Int) : Bool := decide (97 ≤ r) && decide (r ≤ 122)
def rD (r : Int) : Bool := decide (48 ≤ r) && decide (r ≤ 57)
def rW (r : Int) : Bool := rL r || rD r || decide (r = 95)
def rB (r : Int) : Bool := decide (r = 32) || decide (r = 9) || decide (r = 10) || decide (r = 13)
def isL (c : UInt8) : Bool := rL (c.toNat : Int)
def isD (c : UInt8) : Bool := rD (c.toNat : Int)
def isW (c : UInt8) : Bool := rW (c.toNat : Int)
def isB (c : UInt8) : Bool := rB (c.toNat : Int)

/-! blanks and remarks -/
def skipN : Bool → List UInt8 → Nat
  | _, [] => 0
  | true, c :: r => skipN (decide (c.toNat ≠ 10)) r + 1
  | false, c :: r => if c.toNat = 35 then skipN true r + 1 else if isB c then skipN false r + 1 else 0

def spanN (p : UInt8 → Bool) : List UInt8 → Nat
  | [] => 0
  | c :: r => if p c then spanN p r + 1 else 0

/-! a text in quotes -/
def unescN (c : UInt8) : Option UInt8 := if c.toNat = 110 then some 10 else if c.toNat = 34 ∨ c.toNat = 92 then some c else none

def textL : List UInt8 → Option (List UInt8 × Nat)
  | [] => none
  | c :: r =>
    if c.toNat = 34 then some ([], 1)
    else if c.toNat = 10 then none
    else if c.toNat = 92 then
      match r with
      | [] => none
      | d :: r' => match unescN d with
        | none => none
        | some e => (textL r').map fun q => (e :: q.1, q.2 + 2)
    else (textL r).map fun q => (c :: q.1, q.2 + 1)

/-! marks, keys, numbers -/
def markList : List (List UInt8) := [[61, 61], [33, 61], [60, 61], [46, 46], [40], [41], [123], [125], [91], [93], [44], [59], [46], [47], [61], [60], [43], [45], [42], [37]]
def markOf (l : List UInt8) : List (List UInt8) → Nat
  | [] => 0
  | m :: r => if m.isPrefixOf l then m.length else markOf l r
def markN (l : List UInt8) : Nat := markOf l markList

def keyList : List (List UInt8) := [[109, 111, 100, 117, 108, 101], [117, 115, 101], [102, 110], [108, 101, 116], [105, 102], [101, 108, 115, 101], [119, 104, 105, 108, 101], [98, 114, 101, 97, 107], [99, 111, 110, 116, 105, 110, 117, 101], [114, 101, 116, 117, 114, 110], [112, 117, 116], [101, 109, 105, 116], [121, 105, 101, 108, 100], [110, 105, 108], [115, 116, 97, 116, 101], [115, 112, 97, 119, 110], [108, 101, 110], [110, 111, 116], [97, 110, 100], [111, 114]]
def isKey (l : List UInt8) : Bool := keyList.contains l

def numV (l : List UInt8) : Nat := l.foldl (fun a c => a * 10 + (c.toNat - 48)) 0
def numL (l : List UInt8) : Option Nat := if 1 < l.length ∧ l.head? = some 48 then none else if numV l < 2 ^ 63 then some (numV l) else none

def isName (l : List UInt8) : Bool := decide (0 < l.length) && decide (l.length ≤ 16) && (l.head?.map isL).getD false && l.all isW && !isKey l

/-! one token -/
inductive One where
  | bad (e : Nat)
  | tok (k : Nat) (t : List UInt8) (n : Nat) (len : Nat)

def wordOf (l : List UInt8) (n : Nat) : One := if isKey (l.take n) then .tok 5 (l.take n) 0 n else if 16 < n then .bad 10 else .tok 1 (l.take n) 0 n
def intOf' (l : List UInt8) (n : Nat) : One := match numL (l.take n) with | none => .bad 10 | some v => .tok 2 (l.take n) v n
def textOf (r : List UInt8) : One := match textL r with | none => .bad 10 | some q => .tok 3 q.1 0 (q.2 + 1)
def markOne (l : List UInt8) : One := if markN l = 0 then .bad 9 else .tok 4 (l.take (markN l)) 0 (markN l)
def oneL : List UInt8 → One
  | [] => .bad 9
  | c :: r => if isL c then wordOf (c :: r) (spanN isW (c :: r)) else if isD c then intOf' (c :: r) (spanN isD (c :: r)) else if c.toNat = 34 then textOf r else markOne (c :: r)

/-! all of them -/
structure Tk where
  kind : Int
  text : List UInt8
  n : Int
  place : Int
deriving DecidableEq

inductive SR where
  | bad (e : Nat) (a : Nat)
  | toks (l : List Tk)
deriving DecidableEq
def SR.cons (t : Tk) : SR → SR
  | .bad e a => .bad e a
  | .toks l => .toks (t :: l)

def scanF : Nat → Nat → List UInt8 → SR
  | 0, _, _ => .toks []
  | f + 1, p, l =>
    match l.drop (skipN false l) with
    | [] => .toks []
    | c :: r => match oneL (c :: r) with
      | .bad e => .bad e (p + skipN false l)
      | .tok kd t n len => (scanF f (p + skipN false l + len) ((c :: r).drop len)).cons ⟨kd, t, n, (p + skipN false l : Nat)⟩
def scanL (p : Nat) (l : List UInt8) : SR := scanF (l.length + 1) p l

/-! quoting -/
def escL (c : UInt8) : List UInt8 := if c.toNat = 10 then [92, 110] else if c.toNat = 34 ∨ c.toNat = 92 then [92, c] else [c]
def quoteL (l : List UInt8) : List UInt8 := 34 :: (l.flatMap escL ++ [34])
def written (t : Tk) : List UInt8 := if t.kind = 3 then quoteL t.text else t.text
def joinL : List (List UInt8) → List UInt8
  | [] => []
  | [x] => x
  | x :: y :: r => x ++ 32 :: joinL (y :: r)
def writeL (l : List Tk) : List UInt8 := joinL (l.map written)

/-! what these are -/
theorem spanN_le (p : UInt8 → Bool) : ∀ l, spanN p l ≤ l.length
  | [] => Nat.le_refl _
  | c :: r => by unfold spanN; split <;> simp; have := spanN_le p r; omega
theorem skipN_le : ∀ b l, skipN b l ≤ l.length
  | b, [] => by cases b <;> exact Nat.le_refl _
  | true, c :: r => by
    rw [skipN]; have := skipN_le (decide (c.toNat ≠ 10)) r; rw [List.length_cons]; omega
  | false, c :: r => by
    rw [skipN]
    have h1 := skipN_le true r
    have h2 := skipN_le false r
    split
    · simp; omega
    · split
      · simp; omega
      · exact Nat.zero_le _
theorem textL_pos : ∀ (l : List UInt8) q, textL l = some q → 1 ≤ q.2 ∧ q.2 ≤ l.length
  | [], _, h => by simp [textL] at h
  | [c], q, h => by
    unfold textL at h
    split at h
    · cases h; simp
    · split at h
      · cases h
      · split at h
        · cases h
        · simp [textL] at h
  | c :: d :: r, q, h => by
    unfold textL at h
    split at h
    · cases h; simp
    · split at h
      · cases h
      · split at h
        · simp only at h
          split at h
          · cases h
          · rw [Option.map_eq_some_iff] at h
            obtain ⟨q', h', rfl⟩ := h
            have := textL_pos r q' h'
            simp; omega
        · rw [Option.map_eq_some_iff] at h
          obtain ⟨q', h', rfl⟩ := h
          have := textL_pos (d :: r) q' h'
          simp at this ⊢; omega

theorem markOf_le (l : List UInt8) : ∀ ms, markOf l ms ≤ l.length
  | [] => Nat.zero_le _
  | m :: r => by
    unfold markOf
    split
    · rename_i h
      exact (List.isPrefixOf_iff_prefix.1 h).length_le
    · exact markOf_le l r
theorem markN_le (l : List UInt8) : markN l ≤ l.length := markOf_le l _

theorem spanN_first {p : UInt8 → Bool} {c : UInt8} {r : List UInt8} (h : p c = true) : spanN p (c :: r) = spanN p r + 1 := by rw [spanN, if_pos h]
theorem isL_W {c : UInt8} (h : isL c = true) : isW c = true := by unfold isW rW; unfold isL at h; rw [h]; rfl

/-- A token has a byte or more, and no more than there are. -/
theorem oneL_len : ∀ (l : List UInt8) k t n len, oneL l = .tok k t n len → 1 ≤ len ∧ len ≤ l.length
  | [], k, t, n, len, h => by simp [oneL] at h
  | c :: r, k, t, n, len, h => by
    rw [oneL] at h
    split at h
    · rename_i hc
      have h1 := spanN_le isW (c :: r)
      have h2 := spanN_first (r := r) (isL_W hc)
      unfold wordOf at h
      split at h
      · cases h; omega
      · split at h
        · cases h
        · cases h; omega
    · split at h
      · rename_i hc
        have h1 := spanN_le isD (c :: r)
        have h2 := spanN_first (r := r) hc
        unfold intOf' at h
        split at h
        · cases h
        · cases h; omega
      · split at h
        · unfold textOf at h
          split at h
          · cases h
          · rename_i q hq
            cases h
            have := textL_pos r q hq
            simp; omega
        · unfold markOne at h
          have h1 := markN_le (c :: r)
          split at h
          · cases h
          · cases h; omega

theorem scanF_same : ∀ (f g p : Nat) (l : List UInt8), l.length < f → l.length < g → scanF f p l = scanF g p l
  | 0, _, _, _, h, _ => absurd h (Nat.not_lt_zero _)
  | _ + 1, 0, _, _, _, h => absurd h (Nat.not_lt_zero _)
  | f + 1, g + 1, p, l, hf, hg => by
    unfold scanF
    split
    · rfl
    · rename_i c r hd
      split
      · rfl
      · rename_i kd t n len ho
        have h1 := oneL_len _ _ _ _ _ ho
        have h2 : (c :: r).length ≤ l.length := by rw [← hd, List.length_drop]; omega
        rw [scanF_same f g _ ((c :: r).drop len) (by rw [List.length_drop]; omega) (by rw [List.length_drop]; omega)]

/-- What is found from a place on where no blank stands. -/
def scanAt (p : Nat) (l : List UInt8) : SR :=
  match l with
  | [] => .toks []
  | c :: r => match oneL (c :: r) with
    | .bad e => .bad e p
    | .tok kd t n len => (scanL (p + len) ((c :: r).drop len)).cons ⟨kd, t, n, (p : Nat)⟩

theorem scanL_at (p : Nat) (l : List UInt8) : scanL p l = scanAt (p + skipN false l) (l.drop (skipN false l)) := by
  show scanF (l.length + 1) p l = _
  unfold scanF scanAt
  cases hd : l.drop (skipN false l) with
  | nil => rfl
  | cons c r =>
    dsimp only
    cases ho : oneL (c :: r) with
    | bad e => rfl
    | tok kd t n len =>
      have h1 := oneL_len _ _ _ _ _ ho
      have h2 : (c :: r).length ≤ l.length := by rw [← hd, List.length_drop]; omega
      dsimp only
      unfold scanL
      rw [scanF_same l.length (((c :: r).drop len).length + 1) _ ((c :: r).drop len) (by rw [List.length_drop]; omega) (by omega)]

/-- Tokens that are found already, ahead of the others. -/
def SR.pre (ts : List Tk) : SR → SR
  | .bad e a => .bad e a
  | .toks l => .toks (ts ++ l)
theorem pre_nil (r : SR) : r.pre [] = r := by cases r <;> rfl
theorem pre_cons (ts : List Tk) (t : Tk) (r : SR) : (r.cons t).pre ts = r.pre (ts ++ [t]) := by cases r <;> simp [SR.cons, SR.pre]

end Go.Proofs.YtemlceicmpcboaaGreatDoor.Lx
namespace Go.Proofs.YtemlceicmpcboaaGreatDoor.Lx
open Go.RowKit

set_option maxHeartbeats 400000 in
theorem letter_any (r : Int) (w : World) : Calls Tryz.prog 108 #[.int .i32 r] w fun e w' => e = .returned (.bool (rL r)) ∧ w = w' := by
  rcases (show r < 97 ∨ (97 ≤ r ∧ r ≤ 122) ∨ 122 < r by omega) with h | ⟨h, h'⟩ | h
  all_goals
    go_enter Tryz.func108, Tryz.ntmps108
    go_wp2
    go_ret
    refine ⟨?_, rfl⟩
    congr 2
    unfold rL
    simp
    omega

set_option maxHeartbeats 400000 in
theorem digit_any (r : Int) (w : World) : Calls Tryz.prog 110 #[.int .i32 r] w fun e w' => e = .returned (.bool (rD r)) ∧ w = w' := by
  rcases (show r < 48 ∨ (48 ≤ r ∧ r ≤ 57) ∨ 57 < r by omega) with h | ⟨h, h'⟩ | h
  all_goals
    go_enter Tryz.func110, Tryz.ntmps110
    go_wp2
    go_ret
    refine ⟨?_, rfl⟩
    congr 2
    unfold rD
    simp
    omega

set_option maxHeartbeats 400000 in
theorem blank_any (r : Int) (w : World) : Calls Tryz.prog 107 #[.int .i32 r] w fun e w' => e = .returned (.bool (rB r)) ∧ w = w' := by
  rcases (show r = 32 ∨ r = 9 ∨ r = 10 ∨ r = 13 ∨ (r ≠ 32 ∧ r ≠ 9 ∧ r ≠ 10 ∧ r ≠ 13) by omega) with rfl | rfl | rfl | rfl | ⟨h1, h2, h3, h4⟩
  all_goals
    go_enter Tryz.func107, Tryz.ntmps107
    go_wp2
    go_ret
    refine ⟨?_, rfl⟩
    simp [rB, *]

/-- What stands behind a backslash in place of a byte, and whether there is one. -/
def escR (r : Int) : Value := if r = 10 then .tuple #[.int .u8 110, .bool true] else if r = 34 ∨ r = 92 then .tuple #[.int .u8 r, .bool true] else .tuple #[.int .u8 0, .bool false]
def unescR (r : Int) : Value := if r = 110 then .tuple #[.int .u8 10, .bool true] else if r = 34 ∨ r = 92 then .tuple #[.int .u8 r, .bool true] else .tuple #[.int .u8 0, .bool false]

set_option maxHeartbeats 400000 in
theorem escape_any (r : Int) (w : World) : Calls Tryz.prog 155 #[.int .i32 r] w fun e w' => e = .returned (escR r) ∧ w = w' := by
  rcases (show r = 10 ∨ r = 34 ∨ r = 92 ∨ (r ≠ 10 ∧ r ≠ 34 ∧ r ≠ 92) by omega) with rfl | rfl | rfl | ⟨h1, h2, h3⟩
  all_goals
    go_enter Tryz.func155, Tryz.ntmps155
    go_wp2
    go_ret2
    refine ⟨?_, rfl⟩
    unfold escR
    simp [*]

set_option maxHeartbeats 400000 in
theorem unescape_any (r : Int) (w : World) : Calls Tryz.prog 165 #[.int .i32 r] w fun e w' => e = .returned (unescR r) ∧ w = w' := by
  rcases (show r = 110 ∨ r = 34 ∨ r = 92 ∨ (r ≠ 110 ∧ r ≠ 34 ∧ r ≠ 92) by omega) with rfl | rfl | rfl | ⟨h1, h2, h3⟩
  all_goals
    go_enter Tryz.func165, Tryz.ntmps165
    go_wp2
    go_ret2
    refine ⟨?_, rfl⟩
    unfold unescR
    simp [*]

/-! a rune of more than one byte -/
theorem get_drop (s : ByteArray) (i j : Nat) (h : i + j < s.size) : (s.data.toList.drop i)[j]? = some (s.get! (i + j)) := by
  rw [List.getElem?_drop, List.getElem?_eq_getElem (by simpa using h)]
  congr 1
  simp [ByteArray.get!, getElem!_pos, h]

/-- A rune that is no ASCII takes bytes that are none, each. -/
theorem decode_bytes (s : ByteArray) (i : Nat) (h : i < s.size) (ha : 128 ≤ (s[i]'h).toNat) :
    1 ≤ (Utf8.decode s i).2 ∧ i + (Utf8.decode s i).2 ≤ s.size ∧ ∀ c ∈ (s.data.toList.drop i).take (Utf8.decode s i).2, 128 ≤ c.toNat := by
  have e0 : (s.get! i).toNat = (s[i]'h).toNat := by simp [ByteArray.get!, getElem!_pos, h]; rfl
  have key : ∀ k, 1 ≤ k → i + k ≤ s.size → (∀ j, j < k → 128 ≤ (s.get! (i + j)).toNat) → 1 ≤ k ∧ i + k ≤ s.size ∧ ∀ c ∈ (s.data.toList.drop i).take k, 128 ≤ c.toNat := by
    intro k h1 h2 h3
    refine ⟨h1, h2, fun c hc => ?_⟩
    obtain ⟨j, hj, rfl⟩ := List.mem_iff_getElem.1 hc
    rw [List.length_take] at hj
    have := get_drop s i j (by omega)
    rw [List.getElem_take]
    rw [List.getElem?_eq_getElem (by omega)] at this
    rw [Option.some.inj this]
    exact h3 j (by omega)
  rw [Lib.decode_at]
  unfold Lib.decodeN
  rw [e0]
  have a0 : ∀ j, j < 1 → 128 ≤ (s.get! (i + j)).toNat := fun j hj => by rw [show j = 0 by omega, Nat.add_zero, e0]; exact ha
  have a1 : (s.get! (i + 1)).toNat / 64 = 2 → ∀ j, j < 2 → 128 ≤ (s.get! (i + j)).toNat := fun q j hj => by
    rcases (show j < 1 ∨ j = 1 by omega) with hj | rfl
    · exact a0 j hj
    · omega
  have a2 : (s.get! (i + 1)).toNat / 64 = 2 → (s.get! (i + 2)).toNat / 64 = 2 → ∀ j, j < 3 → 128 ≤ (s.get! (i + j)).toNat := fun q q2 j hj => by
    rcases (show j < 2 ∨ j = 2 by omega) with hj | rfl
    · exact a1 q j hj
    · omega
  have a3 : (s.get! (i + 1)).toNat / 64 = 2 → (s.get! (i + 2)).toNat / 64 = 2 → (s.get! (i + 3)).toNat / 64 = 2 → ∀ j, j < 4 → 128 ≤ (s.get! (i + j)).toNat := fun q q2 q3 j hj => by
    rcases (show j < 3 ∨ j = 3 by omega) with hj | rfl
    · exact a2 q q2 j hj
    · omega
  repeat' split
  all_goals first
    | (exfalso; omega)
    | exact key 1 (by omega) (by omega) a0
    | exact key 2 (by omega) (by omega) (a1 (by omega))
    | exact key 3 (by omega) (by omega) (a2 (by omega) (by omega))
    | exact key 4 (by omega) (by omega) (a3 (by omega) (by omega) (by omega))

end Go.Proofs.YtemlceicmpcboaaGreatDoor.Lx
namespace Go.Proofs.YtemlceicmpcboaaGreatDoor.Lx
open Go.RowKit

/-- Of the bytes from a place on a rune takes so many: one, if it is ASCII; else each of these is none. -/
structure Rune (T : List UInt8) (i : Nat) (r : Int) (k : Nat) : Prop where
  lt : i < T.length
  pos : 1 ≤ k
  le : i + k ≤ T.length
  is : (∃ c, T.drop i = c :: T.drop (i + 1) ∧ r = (c.toNat : Int) ∧ r < 128 ∧ k = 1) ∨ (128 ≤ r ∧ ∀ c ∈ (T.drop i).take k, 128 ≤ c.toNat)

theorem iter_step {P : Program} {wr : World} {t : ByteArray} {i b : Nat} (hit : wr.heap[b]? = some (.stringIter t i)) (hlt : i < t.size) :
    ∃ r k w1, Rune t.data.toList i r k ∧ (∀ ty, (Instr.next (.pointer (some ⟨b, 0, none⟩)) true ty).run P wr = .ok (.tuple #[.bool true, .int .i64 i, .int .i32 r]) w1) ∧ w1.heap[b]? = some (.stringIter t (i + k)) ∧ (∀ B w, B ≤ b → Below B w wr → Below B w w1) ∧ (∀ j, j ≠ b → w1.heap[j]? = wr.heap[j]?) ∧ w1.heap.size = wr.heap.size := by
  have hl : i < t.data.toList.length := by simpa using hlt
  refine ⟨_, _, _, ?_, fun ty => Lib.run_next_any_at wr _ t i ty hit hlt, Lib.iterAt_heap wr _ t i _ hit, fun B w hB hb => Lib.below_iterAt hb hB t _, fun j hj => Lib.iterAt_other wr _ _ t _ hj, Lib.iterAt_size _ _ _ _⟩
  by_cases ha : (t[i]'hlt).toNat < 128
  · rw [decode_ascii t i hlt ha]
    refine ⟨hl, Nat.le_refl _, hl, .inl ⟨t[i], ?_, rfl, by omega, rfl⟩⟩
    rw [List.drop_eq_getElem_cons hl]
    rfl
  · have h1 := decode_high t i hlt (by omega)
    obtain ⟨h2, h3, h4⟩ := decode_bytes t i hlt (by omega)
    refine ⟨hl, h2, by simpa using h3, .inr ⟨by have := h1.1; omega, h4⟩⟩

section
variable {T : List UInt8} {i k : Nat} {r : Int}

theorem Rune.first (h : Rune T i r k) (hr : r < 128) : ∃ c, T.drop i = c :: T.drop (i + 1) ∧ r = (c.toNat : Int) ∧ k = 1 := by
  rcases h.is with ⟨c, h1, h2, h3, h4⟩ | ⟨h1, h2⟩
  · exact ⟨c, h1, h2, h4⟩
  · omega
theorem Rune.head (h : Rune T i r k) : ∃ c, T.drop i = c :: T.drop (i + 1) ∧ (r < 128 → r = (c.toNat : Int) ∧ k = 1) ∧ (128 ≤ r → 128 ≤ c.toNat) := by
  have e := List.drop_eq_getElem_cons h.lt
  rcases h.is with ⟨c, h1, h2, h3, h4⟩ | ⟨h1, h2⟩
  · exact ⟨c, h1, fun _ => ⟨h2, h4⟩, fun _ => by omega⟩
  · refine ⟨_, e, fun _ => by omega, fun _ => h2 _ ?_⟩
    obtain ⟨k', rfl⟩ : ∃ k', k = k' + 1 := ⟨k - 1, by have := h.pos; omega⟩
    rw [e, List.take_succ_cons]
    exact List.mem_cons_self

theorem spanN_yes {p : UInt8 → Bool} {q : Int → Bool} (hp : ∀ c, p c = q (c.toNat : Int)) (hq : ∀ x, 128 ≤ x → q x = false) (h : Rune T i r k) (hr : q r = true) : k = 1 ∧ spanN p (T.drop i) = spanN p (T.drop (i + 1)) + 1 := by
  have hlt : r < 128 := by
    rcases Int.lt_or_le r 128 with h' | h'
    · exact h'
    · rw [hq r h'] at hr; cases hr
  obtain ⟨c, e, hc, hk⟩ := h.first hlt
  refine ⟨hk, ?_⟩
  rw [e, spanN, if_pos (by rw [hp, ← hc]; exact hr)]
theorem spanN_no {p : UInt8 → Bool} {q : Int → Bool} (hp : ∀ c, p c = q (c.toNat : Int)) (hq : ∀ x, 128 ≤ x → q x = false) (h : Rune T i r k) (hr : q r = false) : spanN p (T.drop i) = 0 := by
  obtain ⟨c, e, h1, h2⟩ := h.head
  have : p c = false := by
    rw [hp]
    rcases Int.lt_or_le r 128 with h' | h'
    · rw [← (h1 h').1]; exact hr
    · exact hq _ (by have := h2 h'; omega)
  rw [e, spanN, if_neg (by rw [this]; exact Bool.false_ne_true)]

theorem skipN_high : ∀ (l : List UInt8) (k : Nat), k ≤ l.length → (∀ c ∈ l.take k, 128 ≤ c.toNat) → skipN true l = skipN true (l.drop k) + k
  | l, 0, _, _ => by simp
  | [], k + 1, h, _ => by simp at h
  | c :: l, k + 1, h, h' => by
    have hc := h' c (by simp)
    rw [skipN, show decide (c.toNat ≠ 10) = true by simp; omega, skipN_high l k (by simpa using h) (fun x hx => h' x (by simp [hx]))]
    simp; omega
theorem skipN_in (h : Rune T i r k) (hr : r ≠ 10) : skipN true (T.drop i) = skipN true (T.drop (i + k)) + k := by
  rcases h.is with ⟨c, e, h2, h3, rfl⟩ | ⟨h1, h2⟩
  · rw [e, skipN, show decide (c.toNat ≠ 10) = true by simp; omega]
  · rw [skipN_high (T.drop i) k (by rw [List.length_drop]; have := h.le; omega) h2, List.drop_drop]
theorem skipN_out (h : Rune T i r k) (hr : r = 10) : skipN true (T.drop i) = skipN false (T.drop (i + k)) + k := by
  obtain ⟨c, e, hc, rfl⟩ := h.first (by omega)
  rw [e, skipN, show decide (c.toNat ≠ 10) = false by simp; omega]
theorem skipN_hash (h : Rune T i r k) (hr : r = 35) : skipN false (T.drop i) = skipN true (T.drop (i + k)) + k := by
  obtain ⟨c, e, hc, rfl⟩ := h.first (by omega)
  rw [e, skipN, if_pos (by omega)]
theorem rB_high {x : Int} (h : 14 ≤ x) (h' : x ≠ 32) : rB x = false := by unfold rB; simp; omega
theorem skipN_blank (h : Rune T i r k) (h35 : r ≠ 35) (hr : rB r = true) : skipN false (T.drop i) = skipN false (T.drop (i + k)) + k := by
  have hlt : r < 128 := by
    rcases Int.lt_or_le r 128 with h' | h'
    · exact h'
    · rw [rB_high (by omega) (by omega)] at hr; cases hr
  obtain ⟨c, e, hc, rfl⟩ := h.first hlt
  rw [e, skipN, if_neg (by omega), if_pos (by unfold isB; rw [← hc]; exact hr)]
theorem skipN_stop (h : Rune T i r k) (h35 : r ≠ 35) (hr : rB r = false) : skipN false (T.drop i) = 0 := by
  obtain ⟨c, e, h1, h2⟩ := h.head
  have n1 : ¬c.toNat = 35 := by
    rcases Int.lt_or_le r 128 with h' | h'
    · have := h1 h'; omega
    · have := h2 h'; omega
  have n2 : isB c = false := by
    unfold isB
    rcases Int.lt_or_le r 128 with h' | h'
    · rw [← (h1 h').1]; exact hr
    · have := h2 h'; exact rB_high (by omega) (by omega)
  rw [e, skipN, if_neg n1, if_neg (by rw [n2]; exact Bool.false_ne_true)]
end

theorem iter_old (w : World) (s : ByteArray) (pos j : Nat) (h : j < w.heap.size) : (w.iter s pos).heap[j]? = w.heap[j]? := by
  show (w.heap.push _)[j]? = _
  rw [Array.getElem?_push, if_neg (by omega)]
theorem below_iter {B : Nat} {a w : World} (h : Below B a w) (hB : B ≤ w.heap.size) (s : ByteArray) (pos : Nat) : Below B a (w.iter s pos) :=
  h.trans ⟨rfl, rfl, rfl, by show _ ≤ (w.heap.push _).size; simp, fun k hk => iter_old w s pos k (by omega)⟩

/-- What stands from a place on. -/
def from' (s : ByteArray) (a : Nat) : List UInt8 := s.data.toList.drop a
theorem extract_list (s : ByteArray) (a : Nat) : (s.extract a s.size).data.toList = from' s a := by
  rw [Lib.extract_data, List.take_of_length_le (by simp)]; rfl
theorem from_length (s : ByteArray) (a : Nat) : (from' s a).length = s.size - a := by simp [from']
theorem extract_size (s : ByteArray) (a : Nat) : (s.extract a s.size).size = s.size - a := by rw [Lib.size_eq, extract_list, from_length]
theorem from_drop (s : ByteArray) (a b : Nat) : (from' s a).drop b = from' s (a + b) := by unfold from'; rw [List.drop_drop]

theorem run_from {P : Program} (s : ByteArray) (a : Nat) (h : a ≤ s.size) (t : TypeId) (ht : P.underlying t = some .string) (W : World) : (Instr.slice t (.string s) (some (.int .i64 (a : Int))) none none).run P W = .ok (.string (s.extract a s.size)) W := by
  rw [run_slice_string_from_if W t s .i64 _ ht, if_pos ⟨by omega, by omega⟩]
  rfl

set_option maxHeartbeats 1000000 in
theorem skip_any (s : ByteArray) (a : Nat) (w : World) (ha : a ≤ s.size) (hs : s.size ≤ 2 ^ 40) :
    Calls Tryz.prog 52 #[.string s, .int .i64 (a : Int)] w fun e w' => e = .returned (.int .i64 ((a + skipN false (from' s a) : Nat) : Int)) ∧ Below w.heap.size w w' := by
  have hsl := fun W => run_from (P := Tryz.prog) s a ha 9 Tryz.underlying9 W
  have hsz := extract_size s a
  have hls := extract_list s a
  generalize s.extract a s.size = t at hsl hsz hls
  have HL := Lib.hid hls
  have hz : t.size ≤ s.size := by omega
  have HZ := Lib.hid hsz
  clear hsz hls
  go_enter Tryz.func52, Tryz.ntmps52
  go_wp2
  clear hsl
  go_loopw [5] (fun vb wr => ∃ (i : Nat) (b : Bool), i ≤ t.size ∧ vb = .bool b ∧ Hid (wr.heap[w.heap.size]? = some (.stringIter t i)) ∧ Hid (skipN false t.data.toList = i + skipN b (t.data.toList.drop i)) ∧ Hid (Below w.heap.size w wr)) (fun _ wr => t.size - wr.iterPos w.heap.size)
  case atStart => exact ⟨0, false, Nat.zero_le _, rfl, Lib.hid (World.iter_heap w t 0), Lib.hid (by simp), Lib.hid (below_iter (Below.refl _ _) (Nat.le_refl _) t 0)⟩
  case round =>
    obtain ⟨i, b, hi, rfl, hit, hsk, hbel⟩ := hrel
    by_cases hlt : i < t.size
    · obtain ⟨r, k, w1, hR, hn, hit1, hB1, -⟩ := iter_step (P := Tryz.prog) hit.out hlt
      have HB := Lib.hid (hB1 _ _ (Nat.le_refl _) hbel.out)
      have HI := Lib.hid hit1
      have HR := Lib.hid hR
      have hle : i + k ≤ t.size := by have := hR.le; simpa using this
      have hpos := hR.pos
      have HM : Hid (t.size - w1.iterPos w.heap.size < t.size - wr.iterPos w.heap.size) := Lib.hid (by rw [iterPos_of hit1, iterPos_of hit.out]; omega)
      clear hR hB1 hit1 hit hbel hpos
      cases b with
      | true =>
        by_cases h10 : r = 10
        · have HS : Hid (skipN false t.data.toList = i + k + skipN false (t.data.toList.drop (i + k))) := Lib.hid (by have := skipN_out HR.out h10; have := hsk.out; omega)
          clear hsk
          go_wp2
          go_roundw
          case rel => exact ⟨i + k, false, hle, rfl, HI, HS, HB⟩
          case measure => exact HM.out
        · have HS : Hid (skipN false t.data.toList = i + k + skipN true (t.data.toList.drop (i + k))) := Lib.hid (by have := skipN_in HR.out h10; have := hsk.out; omega)
          clear hsk
          go_wp2
          go_roundw
          case rel => exact ⟨i + k, true, hle, by simp [h10], HI, HS, HB⟩
          case measure => exact HM.out
      | false =>
        by_cases h35 : r = 35
        · have HS : Hid (skipN false t.data.toList = i + k + skipN true (t.data.toList.drop (i + k))) := Lib.hid (by have := skipN_hash HR.out h35; have := hsk.out; omega)
          clear hsk
          go_wp2
          go_roundw
          case rel => exact ⟨i + k, true, hle, rfl, HI, HS, HB⟩
          case measure => exact HM.out
        · cases hb : rB r with
          | true =>
            have HS : Hid (skipN false t.data.toList = i + k + skipN false (t.data.toList.drop (i + k))) := Lib.hid (by have := skipN_blank HR.out h35 hb; have := hsk.out; omega)
            have C := Lib.hid (fun W => blank_any r W)
            rw [hb] at C
            clear hsk hb
            go_wp2_with (go_at_call 107; refine (C.out _).mono ?_; rintro e w' ⟨rfl, rfl⟩)
            go_roundw
            case rel => exact ⟨i + k, false, hle, rfl, HI, HS, HB⟩
            case measure => exact HM.out
          | false =>
            have HS : Hid (skipN false t.data.toList = i) := Lib.hid (by have := skipN_stop HR.out h35 hb; have := hsk.out; omega)
            have C := Lib.hid (fun W => blank_any r W)
            rw [hb] at C
            clear hsk hb
            go_wp2_with (go_at_call 107; refine (C.out _).mono ?_; rintro e w' ⟨rfl, rfl⟩)
            go_ret
            refine ⟨?_, HB.out⟩
            rw [← HL.out, HS.out]
            simp
    · obtain rfl : i = t.size := by omega
      have hn := fun ty => Lib.run_next_end_at (P := Tryz.prog) wr w.heap.size t t.size ty hit.out (Nat.lt_irrefl _)
      have HS : Hid (skipN false t.data.toList = t.size) := Lib.hid (by have := hsk.out; rw [List.drop_eq_nil_of_le (by simp)] at this; simpa [skipN] using this)
      clear hsk
      go_wp2
      go_ret
      refine ⟨?_, hbel.out⟩
      rw [← HL.out, HS.out, HZ.out, show a + (s.size - a) = s.size by omega]
      rfl

theorem spanN_nil (p : UInt8 → Bool) : spanN p [] = 0 := rfl
theorem rW_high (x : Int) (h : 128 ≤ x) : rW x = false := by unfold rW rL rD; simp; omega
theorem rD_high (x : Int) (h : 128 ≤ x) : rD x = false := by unfold rD; simp; omega

set_option maxHeartbeats 1000000 in
theorem digitsEnd_any (s : ByteArray) (a : Nat) (w : World) (ha : a ≤ s.size) (hs : s.size ≤ 2 ^ 40) :
    Calls Tryz.prog 163 #[.string s, .int .i64 (a : Int)] w fun e w' => e = .returned (.int .i64 ((a + spanN isD (from' s a) : Nat) : Int)) ∧ Below w.heap.size w w' := by
  have hsl := fun W => run_from (P := Tryz.prog) s a ha 9 Tryz.underlying9 W
  have hsz := extract_size s a
  have hls := extract_list s a
  generalize s.extract a s.size = t at hsl hsz hls
  have HL := Lib.hid hls
  have hz : t.size ≤ s.size := by omega
  have HZ := Lib.hid hsz
  clear hsz hls
  go_enter Tryz.func163, Tryz.ntmps163
  go_wp2
  clear hsl
  go_loopw [5] (fun _ wr => ∃ (i : Nat), i ≤ t.size ∧ Hid (wr.heap[w.heap.size]? = some (.stringIter t i)) ∧ Hid (spanN isD t.data.toList = i + spanN isD (t.data.toList.drop i)) ∧ Hid (Below w.heap.size w wr)) (fun _ wr => t.size - wr.iterPos w.heap.size)
  case atStart => exact ⟨0, Nat.zero_le _, Lib.hid (World.iter_heap w t 0), Lib.hid (by simp), Lib.hid (below_iter (Below.refl _ _) (Nat.le_refl _) t 0)⟩
  case round =>
    obtain ⟨i, hi, hit, hsk, hbel⟩ := hrel
    by_cases hlt : i < t.size
    · obtain ⟨r, k, w1, hR, hn, hit1, hB1, -⟩ := iter_step (P := Tryz.prog) hit.out hlt
      have HB := Lib.hid (hB1 _ _ (Nat.le_refl _) hbel.out)
      have HI := Lib.hid hit1
      have HR := Lib.hid hR
      have hle : i + k ≤ t.size := by have := hR.le; simpa using this
      have hpos := hR.pos
      have HM : Hid (t.size - w1.iterPos w.heap.size < t.size - wr.iterPos w.heap.size) := Lib.hid (by rw [iterPos_of hit1, iterPos_of hit.out]; omega)
      clear hR hB1 hit1 hit hbel hpos
      have C := Lib.hid (fun W => digit_any r W)
      cases hb : rD r with
      | true =>
        have HS : Hid (k = 1 ∧ spanN isD t.data.toList = i + k + spanN isD (t.data.toList.drop (i + k))) := Lib.hid (by
          obtain ⟨rfl, h2⟩ := spanN_yes (p := isD) (fun _ => rfl) rD_high HR.out hb
          have := hsk.out
          exact ⟨rfl, by omega⟩)
        rw [hb] at C
        clear hsk hb
        go_wp2_with (go_at_call 110; refine (C.out _).mono ?_; rintro e w' ⟨rfl, rfl⟩)
        go_roundw
        case rel => exact ⟨i + k, hle, HI, Lib.hid HS.out.2, HB⟩
        case measure => exact HM.out
      | false =>
        have HS : Hid (spanN isD t.data.toList = i) := Lib.hid (by have := spanN_no (p := isD) (fun _ => rfl) rD_high HR.out hb; have := hsk.out; omega)
        rw [hb] at C
        clear hsk hb
        go_wp2_with (go_at_call 110; refine (C.out _).mono ?_; rintro e w' ⟨rfl, rfl⟩)
        go_ret
        refine ⟨?_, HB.out⟩
        rw [← HL.out, HS.out]
        simp
    · obtain rfl : i = t.size := by omega
      have hn := fun ty => Lib.run_next_end_at (P := Tryz.prog) wr w.heap.size t t.size ty hit.out (Nat.lt_irrefl _)
      have HS : Hid (spanN isD t.data.toList = t.size) := Lib.hid (by have := hsk.out; rw [List.drop_eq_nil_of_le (by simp)] at this; simpa [spanN] using this)
      clear hsk
      go_wp2
      go_ret
      refine ⟨?_, hbel.out⟩
      rw [← HL.out, HS.out, HZ.out, show a + (s.size - a) = s.size by omega]
      rfl

set_option maxHeartbeats 1000000 in
theorem wordEnd_any (s : ByteArray) (a : Nat) (w : World) (ha : a ≤ s.size) (hs : s.size ≤ 2 ^ 40) :
    Calls Tryz.prog 159 #[.string s, .int .i64 (a : Int)] w fun e w' => e = .returned (.int .i64 ((a + spanN isW (from' s a) : Nat) : Int)) ∧ Below w.heap.size w w' := by
  have hsl := fun W => run_from (P := Tryz.prog) s a ha 9 Tryz.underlying9 W
  have hsz := extract_size s a
  have hls := extract_list s a
  generalize s.extract a s.size = t at hsl hsz hls
  have HL := Lib.hid hls
  have hz : t.size ≤ s.size := by omega
  have HZ := Lib.hid hsz
  clear hsz hls
  go_enter Tryz.func159, Tryz.ntmps159
  go_wp2
  clear hsl
  go_loopw [5] (fun _ wr => ∃ (i : Nat), i ≤ t.size ∧ Hid (wr.heap[w.heap.size]? = some (.stringIter t i)) ∧ Hid (spanN isW t.data.toList = i + spanN isW (t.data.toList.drop i)) ∧ Hid (Below w.heap.size w wr)) (fun _ wr => t.size - wr.iterPos w.heap.size)
  case atStart => exact ⟨0, Nat.zero_le _, Lib.hid (World.iter_heap w t 0), Lib.hid (by simp), Lib.hid (below_iter (Below.refl _ _) (Nat.le_refl _) t 0)⟩
  case round =>
    obtain ⟨i, hi, hit, hsk, hbel⟩ := hrel
    by_cases hlt : i < t.size
    · obtain ⟨r, k, w1, hR, hn, hit1, hB1, -⟩ := iter_step (P := Tryz.prog) hit.out hlt
      have HB := Lib.hid (hB1 _ _ (Nat.le_refl _) hbel.out)
      have HI := Lib.hid hit1
      have HR := Lib.hid hR
      have hle : i + k ≤ t.size := by have := hR.le; simpa using this
      have hpos := hR.pos
      have HM : Hid (t.size - w1.iterPos w.heap.size < t.size - wr.iterPos w.heap.size) := Lib.hid (by rw [iterPos_of hit1, iterPos_of hit.out]; omega)
      clear hR hB1 hit1 hit hbel hpos
      have C := Lib.hid (fun W => digit_any r W)
      have CL := Lib.hid (fun W => letter_any r W)
      cases hb : rW r with
      | true =>
        have HS : Hid (k = 1 ∧ spanN isW t.data.toList = i + k + spanN isW (t.data.toList.drop (i + k))) := Lib.hid (by
          obtain ⟨rfl, h2⟩ := spanN_yes (p := isW) (fun _ => rfl) rW_high HR.out hb
          have := hsk.out
          exact ⟨rfl, by omega⟩)
        have HB2 := Lib.hid hb
        clear hsk hb
        rcases hl : rL r with _ | _
        · rcases hd : rD r with _ | _
          · have h95 : r = 95 := by have := HB2.out; unfold rW at this; rw [hl, hd] at this; simpa using this
            rw [hd] at C
            rw [hl] at CL
            clear hl hd
            subst h95
            go_wp2_with (first
          | (go_at_call 110; refine (C.out _).mono ?_; rintro e w' ⟨rfl, rfl⟩)
          | (go_at_call 108; refine (CL.out _).mono ?_; rintro e w' ⟨rfl, rfl⟩))
            go_roundw
            case rel => exact ⟨i + k, hle, HI, Lib.hid HS.out.2, HB⟩
            case measure => exact HM.out
          · rw [hd] at C
            rw [hl] at CL
            clear hl hd
            go_wp2_with (first
          | (go_at_call 110; refine (C.out _).mono ?_; rintro e w' ⟨rfl, rfl⟩)
          | (go_at_call 108; refine (CL.out _).mono ?_; rintro e w' ⟨rfl, rfl⟩))
            go_roundw
            case rel => exact ⟨i + k, hle, HI, Lib.hid HS.out.2, HB⟩
            case measure => exact HM.out
        · rw [hl] at CL
          clear hl
          go_wp2_with (first
          | (go_at_call 110; refine (C.out _).mono ?_; rintro e w' ⟨rfl, rfl⟩)
          | (go_at_call 108; refine (CL.out _).mono ?_; rintro e w' ⟨rfl, rfl⟩))
          go_roundw
          case rel => exact ⟨i + k, hle, HI, Lib.hid HS.out.2, HB⟩
          case measure => exact HM.out
      | false =>
        have HS : Hid (spanN isW t.data.toList = i) := Lib.hid (by have := spanN_no (p := isW) (fun _ => rfl) rW_high HR.out hb; have := hsk.out; omega)
        have h3 : rL r = false ∧ rD r = false ∧ r ≠ 95 := by
          unfold rW at hb
          rw [Bool.or_eq_false_iff, Bool.or_eq_false_iff] at hb
          exact ⟨hb.1.1, hb.1.2, by simpa using hb.2⟩
        obtain ⟨hl, hd, h95⟩ := h3
        rw [hd] at C
        rw [hl] at CL
        clear hsk hb hl hd
        go_wp2_with (first
          | (go_at_call 110; refine (C.out _).mono ?_; rintro e w' ⟨rfl, rfl⟩)
          | (go_at_call 108; refine (CL.out _).mono ?_; rintro e w' ⟨rfl, rfl⟩))
        go_ret
        refine ⟨?_, HB.out⟩
        rw [← HL.out, HS.out]
        simp
    · obtain rfl : i = t.size := by omega
      have hn := fun ty => Lib.run_next_end_at (P := Tryz.prog) wr w.heap.size t t.size ty hit.out (Nat.lt_irrefl _)
      have HS : Hid (spanN isW t.data.toList = t.size) := Lib.hid (by have := hsk.out; rw [List.drop_eq_nil_of_le (by simp)] at this; simpa [spanN] using this)
      clear hsk
      go_wp2
      go_ret
      refine ⟨?_, hbel.out⟩
      rw [← HL.out, HS.out, HZ.out, show a + (s.size - a) = s.size by omega]
      rfl

end Go.Proofs.YtemlceicmpcboaaGreatDoor.Lx
namespace Go.Proofs.YtemlceicmpcboaaGreatDoor.Lx
open Go.Shelf
def lays156_ren : Go.Shelf.Ren := ⟨fun | 156 => 101 | 165 => 156 | 166 => 157 | 169 => 158 | 240 => 184 | 241 => 185 | 276 => 212 | 277 => 213 | n => n, fun | 31 => 104 | 9 => 9 | 3 => 3 | 4 => 4 | 0 => 0 | 20 => 20 | 72 => 172 | 76 => 175 | 70 => 170 | 37 => 69 | 75 => 174 | 127 => 188 | 164 => 208 | 5 => 5 | 80 => 115 | n => n, fun | n => n⟩
theorem lays156 : Go.Proofs.Lays.n156 Tryz.prog lays156_ren := {
  mixed := by kernel_rfl
  f156 := Tryz.func101.trans (congrArg some (by kernel_rfl))
  f165 := Tryz.func156.trans (congrArg some (by kernel_rfl))
  f166 := Tryz.func157.trans (congrArg some (by kernel_rfl))
  f169 := Tryz.func158.trans (congrArg some (by kernel_rfl))
  f240 := Tryz.func184.trans (congrArg some (by kernel_rfl))
  f241 := Tryz.func185.trans (congrArg some (by kernel_rfl))
  f276 := Tryz.func212.trans (congrArg some (by kernel_rfl))
  f277 := Tryz.func213.trans (congrArg some (by kernel_rfl))
  t0 := Tryz.underlying0
  a0 := Tryz.isAgg0
  z0 := Tryz.sizeOf0
  v0 := Tryz.zeroValue0
  t3 := Tryz.underlying3
  a3 := Tryz.isAgg3
  z3 := Tryz.sizeOf3
  v3 := Tryz.zeroValue3
  t4 := Tryz.underlying4
  a4 := Tryz.isAgg4
  z4 := Tryz.sizeOf4
  v4 := Tryz.zeroValue4
  t9 := Tryz.underlying9
  a9 := Tryz.isAgg9
  z9 := Tryz.sizeOf9
  v9 := Tryz.zeroValue9
  t20 := Tryz.underlying20
  a20 := Tryz.isAgg20
  z20 := Tryz.sizeOf20
  v20 := Tryz.zeroValue20
  t31 := Tryz.underlying104
  a31 := Tryz.isAgg104
  z31 := Tryz.sizeOf104
  v31 := Tryz.zeroValue104
  t37 := Tryz.underlying69
  a37 := Tryz.isAgg69
  z37 := Tryz.sizeOf69
  v37 := Tryz.zeroValue69
  t70 := Tryz.underlying170
  a70 := Tryz.isAgg170
  z70 := Tryz.sizeOf170
  v70 := Tryz.zeroValue170
  t72 := Tryz.underlying172
  a72 := Tryz.isAgg172
  z72 := Tryz.sizeOf172
  v72 := Tryz.zeroValue172
  t75 := Tryz.underlying174
  a75 := Tryz.isAgg174
  z75 := Tryz.sizeOf174
  v75 := Tryz.zeroValue174
  t76 := Tryz.underlying175
  a76 := Tryz.isAgg175
  z76 := Tryz.sizeOf175
  v76 := Tryz.zeroValue175
  t127 := Tryz.underlying188
  a127 := Tryz.isAgg188
  z127 := Tryz.sizeOf188
  v127 := Tryz.zeroValue188
  t164 := Tryz.underlying208
  a164 := Tryz.isAgg208
  z164 := Tryz.sizeOf208
  v164 := Tryz.zeroValue208 }
theorem Builder_Extra_156 : Builder.Extra Tryz.prog lays156_ren := {
  sizeBuilder := by kernel_rfl
  liesBuilder := by kernel_rfl
  t5 := Tryz.underlying5
  a5 := Tryz.isAgg5
  z5 := Tryz.sizeOf5
  v5 := Tryz.zeroValue5
  infoByte := by kernel_rfl
  cellsByte := by kernel_rfl
  sizeByte := by kernel_rfl
  neB5 := by decide }
open Go.RowKit in
theorem strings_Join_none (a : Option Addr) (c : Nat) (sep : ByteArray) (w : World) :
    Calls Tryz.prog 101 #[.slice a 0 c, .string sep] w fun e w' => e = .returned (.string ⟨#[]⟩) ∧ w' = w := Any.strings_Join_none lays156 Builder_Extra_156 a c sep w
open Go.RowKit in
theorem strings_Join (bk o c : Nat) (xs : List ByteArray) (sep : ByteArray) (w : World) (hcells : ∀ (j : Nat) x, xs[j]? = some x → w.cell? ⟨bk, o + j, none⟩ = some (.string x)) (hbk : bk < w.heap.size) (hN : xs.length ≤ 140737488355328) (hcap : xs.length ≤ c) (hlen : (Lib.join (xs.map (·.data.toList)) sep.data.toList).length ≤ 140737488355328) :
    Calls Tryz.prog 101 #[.slice (some ⟨bk, o, none⟩) xs.length c, .string sep] w fun e w' => e = .returned (.string ⟨(Lib.join (xs.map (·.data.toList)) sep.data.toList).toArray⟩) ∧ Below w.heap.size w w' := Any.strings_Join lays156 Builder_Extra_156 bk o c xs sep w hcells hbk hN hcap hlen
def lays137_ren : Go.Shelf.Ren := ⟨fun | 137 => 190 | 217 => 220 | 266 => 244 | n => n, fun | 9 => 9 | 5 => 5 | 3 => 3 | n => n, fun | n => n⟩
theorem lays137 : Go.Proofs.Lays.n137 Tryz.prog lays137_ren := {
  mixed := by kernel_rfl
  f137 := Tryz.func190.trans (congrArg some (by kernel_rfl))
  f217 := Tryz.func220.trans (congrArg some (by kernel_rfl))
  f266 := Tryz.func244.trans (congrArg some (by kernel_rfl))
  t3 := Tryz.underlying3
  a3 := Tryz.isAgg3
  z3 := Tryz.sizeOf3
  v3 := Tryz.zeroValue3
  t5 := Tryz.underlying5
  a5 := Tryz.isAgg5
  z5 := Tryz.sizeOf5
  v5 := Tryz.zeroValue5
  t9 := Tryz.underlying9
  a9 := Tryz.isAgg9
  z9 := Tryz.sizeOf9
  v9 := Tryz.zeroValue9 }
open Go.RowKit in
theorem strings_IndexByte (s : ByteArray) (c : Int) (w : World) :
    Calls Tryz.prog 190 #[.string s, .int .u8 c] w fun e w' => e = .returned (.int .i64 (Lib.indexByte s.data.toList c.toNat.toUInt8)) ∧ w' = w := Any.strings_IndexByte lays137 s c w
def laysC174_ren : Go.Shelf.Ren := ⟨fun | 174 => 164 | 247 => 187 | 245 => 188 | 287 => 214 | 279 => 215 | 280 => 216 | 281 => 217 | 282 => 218 | 321 => 239 | 322 => 240 | 316 => 241 | 171 => 243 | 205 => 242 | 243 => 254 | 246 => 183 | 283 => 208 | 284 => 209 | 285 => 210 | 286 => 211 | 129 => 235 | 317 => 234 | 318 => 236 | 319 => 237 | 320 => 238 | 337 => 252 | 338 => 253 | n => n, fun | 9 => 9 | 3 => 3 | 2 => 2 | 75 => 174 | 85 => 178 | 4 => 4 | 167 => 211 | 5 => 5 | 53 => 187 | 175 => 212 | 46 => 214 | 168 => 215 | 37 => 69 | 0 => 0 | 210 => 231 | 21 => 21 | 127 => 188 | 145 => 238 | 143 => 236 | 171 => 203 | 173 => 206 | 212 => 225 | 51 => 226 | 20 => 20 | 213 => 227 | 232 => 241 | 233 => 242 | 80 => 115 | n => n, fun | 15 => 2 | 16 => 3 | 17 => 0 | 18 => 4 | 19 => 5 | n => n⟩
theorem laysC174 : Go.Proofs.LaysC.n174 Tryz.prog laysC174_ren := {
  mixed := by kernel_rfl
  f129 := Tryz.func235.trans (congrArg some (by kernel_rfl))
  f171 := Tryz.func243.trans (congrArg some (by kernel_rfl))
  f174 := Tryz.func164.trans (congrArg some (by kernel_rfl))
  f205 := Tryz.func242.trans (congrArg some (by kernel_rfl))
  f243 := Tryz.func254.trans (congrArg some (by kernel_rfl))
  f245 := Tryz.func188.trans (congrArg some (by kernel_rfl))
  f246 := Tryz.func183.trans (congrArg some (by kernel_rfl))
  f247 := Tryz.func187.trans (congrArg some (by kernel_rfl))
  f279 := Tryz.func215.trans (congrArg some (by kernel_rfl))
  f280 := Tryz.func216.trans (congrArg some (by kernel_rfl))
  f281 := Tryz.func217.trans (congrArg some (by kernel_rfl))
  f282 := Tryz.func218.trans (congrArg some (by kernel_rfl))
  f283 := Tryz.func208.trans (congrArg some (by kernel_rfl))
  f284 := Tryz.func209.trans (congrArg some (by kernel_rfl))
  f285 := Tryz.func210.trans (congrArg some (by kernel_rfl))
  f286 := Tryz.func211.trans (congrArg some (by kernel_rfl))
  f287 := Tryz.func214.trans (congrArg some (by kernel_rfl))
  f316 := Tryz.func241.trans (congrArg some (by kernel_rfl))
  f317 := Tryz.func234.trans (congrArg some (by kernel_rfl))
  f318 := Tryz.func236.trans (congrArg some (by kernel_rfl))
  f319 := Tryz.func237.trans (congrArg some (by kernel_rfl))
  f320 := Tryz.func238.trans (congrArg some (by kernel_rfl))
  f321 := Tryz.func239.trans (congrArg some (by kernel_rfl))
  f322 := Tryz.func240.trans (congrArg some (by kernel_rfl))
  f337 := Tryz.func252.trans (congrArg some (by kernel_rfl))
  f338 := Tryz.func253.trans (congrArg some (by kernel_rfl))
  t0 := Tryz.underlying0
  a0 := Tryz.isAgg0
  z0 := Tryz.sizeOf0
  v0 := Tryz.zeroValue0
  t2 := Tryz.underlying2
  a2 := Tryz.isAgg2
  z2 := Tryz.sizeOf2
  v2 := Tryz.zeroValue2
  t3 := Tryz.underlying3
  a3 := Tryz.isAgg3
  z3 := Tryz.sizeOf3
  v3 := Tryz.zeroValue3
  t4 := Tryz.underlying4
  a4 := Tryz.isAgg4
  z4 := Tryz.sizeOf4
  v4 := Tryz.zeroValue4
  t5 := Tryz.underlying5
  a5 := Tryz.isAgg5
  z5 := Tryz.sizeOf5
  v5 := Tryz.zeroValue5
  t9 := Tryz.underlying9
  a9 := Tryz.isAgg9
  z9 := Tryz.sizeOf9
  v9 := Tryz.zeroValue9
  t20 := Tryz.underlying20
  a20 := Tryz.isAgg20
  z20 := Tryz.sizeOf20
  v20 := Tryz.zeroValue20
  t21 := Tryz.underlying21
  a21 := Tryz.isAgg21
  z21 := Tryz.sizeOf21
  v21 := Tryz.zeroValue21
  t37 := Tryz.underlying69
  a37 := Tryz.isAgg69
  z37 := Tryz.sizeOf69
  v37 := Tryz.zeroValue69
  t46 := Tryz.underlying214
  a46 := Tryz.isAgg214
  z46 := Tryz.sizeOf214
  v46 := Tryz.zeroValue214
  t51 := Tryz.underlying226
  a51 := Tryz.isAgg226
  z51 := Tryz.sizeOf226
  v51 := Tryz.zeroValue226
  t53 := Tryz.underlying187
  a53 := Tryz.isAgg187
  z53 := Tryz.sizeOf187
  v53 := Tryz.zeroValue187
  t75 := Tryz.underlying174
  a75 := Tryz.isAgg174
  z75 := Tryz.sizeOf174
  v75 := Tryz.zeroValue174
  t85 := Tryz.underlying178
  a85 := Tryz.isAgg178
  z85 := Tryz.sizeOf178
  v85 := Tryz.zeroValue178
  t127 := Tryz.underlying188
  a127 := Tryz.isAgg188
  z127 := Tryz.sizeOf188
  v127 := Tryz.zeroValue188
  t143 := Tryz.underlying236
  a143 := Tryz.isAgg236
  z143 := Tryz.sizeOf236
  v143 := Tryz.zeroValue236
  t145 := Tryz.underlying238
  a145 := Tryz.isAgg238
  z145 := Tryz.sizeOf238
  v145 := Tryz.zeroValue238
  t167 := Tryz.underlying211
  a167 := Tryz.isAgg211
  z167 := Tryz.sizeOf211
  v167 := Tryz.zeroValue211
  t168 := Tryz.underlying215
  a168 := Tryz.isAgg215
  z168 := Tryz.sizeOf215
  v168 := Tryz.zeroValue215
  t171 := Tryz.underlying203
  a171 := Tryz.isAgg203
  z171 := Tryz.sizeOf203
  v171 := Tryz.zeroValue203
  t173 := Tryz.underlying206
  a173 := Tryz.isAgg206
  z173 := Tryz.sizeOf206
  v173 := Tryz.zeroValue206
  t175 := Tryz.underlying212
  a175 := Tryz.isAgg212
  z175 := Tryz.sizeOf212
  v175 := Tryz.zeroValue212
  t210 := Tryz.underlying231
  a210 := Tryz.isAgg231
  z210 := Tryz.sizeOf231
  v210 := Tryz.zeroValue231
  t212 := Tryz.underlying225
  a212 := Tryz.isAgg225
  z212 := Tryz.sizeOf225
  v212 := Tryz.zeroValue225
  t213 := Tryz.underlying227
  a213 := Tryz.isAgg227
  z213 := Tryz.sizeOf227
  t232 := Tryz.underlying241
  a232 := Tryz.isAgg241
  z232 := Tryz.sizeOf241
  v232 := Tryz.zeroValue241
  t233 := Tryz.underlying242
  a233 := Tryz.isAgg242
  z233 := Tryz.sizeOf242
  v233 := Tryz.zeroValue242
  g15 := by kernel_rfl
  g16 := by kernel_rfl
  g17 := by kernel_rfl
  g18 := by kernel_rfl
  g19 := by kernel_rfl
  t80 := Tryz.underlying115
  a80 := Tryz.isAgg115
  z80 := Tryz.sizeOf115
  v80 := Tryz.zeroValue115
  i0 := by kernel_rfl
  i2 := by kernel_rfl
  i3 := by kernel_rfl
  i4 := by kernel_rfl
  i5 := by kernel_rfl
  i9 := by kernel_rfl
  i20 := by kernel_rfl
  i21 := by kernel_rfl
  i37 := by kernel_rfl
  i46 := by kernel_rfl
  i51 := by kernel_rfl
  i53 := by kernel_rfl
  i75 := by kernel_rfl
  i80 := by kernel_rfl
  i85 := by kernel_rfl
  i127 := by kernel_rfl
  i143 := by kernel_rfl
  i145 := by kernel_rfl
  i167 := by kernel_rfl
  i168 := by kernel_rfl
  i171 := by kernel_rfl
  i173 := by kernel_rfl
  i175 := by kernel_rfl
  i210 := by kernel_rfl
  i212 := by kernel_rfl
  i232 := by kernel_rfl
  i233 := by kernel_rfl
  m15 := by kernel_rfl
  m16 := by kernel_rfl
  m17 := by kernel_rfl
  m18 := by kernel_rfl
  m19 := by kernel_rfl
  c0 := by kernel_rfl
  c2 := by kernel_rfl
  c3 := by kernel_rfl
  c4 := by kernel_rfl
  c5 := by kernel_rfl
  c9 := by kernel_rfl
  c20 := by kernel_rfl
  c21 := by kernel_rfl
  c37 := by kernel_rfl
  c46 := by kernel_rfl
  c51 := by kernel_rfl
  c53 := by kernel_rfl
  c75 := by kernel_rfl
  c80 := by kernel_rfl
  c85 := by kernel_rfl
  c127 := by kernel_rfl
  c143 := by kernel_rfl
  c145 := by kernel_rfl
  c167 := by kernel_rfl
  c168 := by kernel_rfl
  c171 := by kernel_rfl
  c173 := by kernel_rfl
  c175 := by kernel_rfl
  c210 := by kernel_rfl
  c212 := by kernel_rfl
  c213 := by kernel_rfl
  c232 := by kernel_rfl
  c233 := by kernel_rfl }
open Go.RowKit in
theorem strconv_ParseInt_10_at64_ok (s : ByteArray) (hmax : s.size ≤ 9223372036854775806) (v : Int) (h : Lib.parseIntB 64 s.data.toList = .ok v) (w : World) :
    Calls Tryz.prog 164 #[.string s, .int .i64 10, .int .i64 64] w fun e w' => e = .returned (.tuple #[.int .i64 v, .nilIface]) ∧ (w' = w ∨ ∃ t, w' = Lib.bytesWorld w 5 t) := Any.strconv_ParseInt_10_at64_ok laysC174 s hmax v h w
open Go.RowKit in
theorem strconv_ParseInt_10_at64_range_var (s : ByteArray) (hlim : s.size ≤ 281474976710656) (h : Lib.parseIntB 64 s.data.toList = .range) (tp : TypeId) (p : Value) (w : World) (hvar : w.var? Tryz.prog "strconv.ErrRange" = some #[.iface tp p]) :
    Calls Tryz.prog 164 #[.string s, .int .i64 10, .int .i64 64] w fun e w' => ∃ N, e = .returned (.tuple #[.int .i64 (Lib.intSat 64 s.data.toList), .iface 215 (.pointer (some ⟨N, 0, none⟩))]) ∧ w.heap.size ≤ N ∧ w'.heap[N]? = some (.cells #[.string ⟨#[80, 97, 114, 115, 101, 73, 110, 116]⟩, .string s, .iface tp p] 231 (0, 0)) ∧ Below w.heap.size w w' := Any.strconv_ParseInt_10_at64_range_var laysC174 s hlim h tp p w hvar
def lays99_ren : Go.Shelf.Ren := ⟨fun | 99 => 189 | 206 => 219 | n => n, fun | 9 => 9 | 4 => 4 | 3 => 3 | n => n, fun | n => n⟩
theorem lays99 : Go.Proofs.Lays.n99 Tryz.prog lays99_ren := {
  mixed := by kernel_rfl
  f99 := Tryz.func189.trans (congrArg some (by kernel_rfl))
  f206 := Tryz.func219.trans (congrArg some (by kernel_rfl))
  t3 := Tryz.underlying3
  a3 := Tryz.isAgg3
  z3 := Tryz.sizeOf3
  v3 := Tryz.zeroValue3
  t4 := Tryz.underlying4
  a4 := Tryz.isAgg4
  z4 := Tryz.sizeOf4
  v4 := Tryz.zeroValue4
  t9 := Tryz.underlying9
  a9 := Tryz.isAgg9
  z9 := Tryz.sizeOf9
  v9 := Tryz.zeroValue9 }
open Go.RowKit Go.Lib in
theorem strings_HasPrefix (s p : ByteArray) (w : World) :
    Calls Tryz.prog 189 #[.string s, .string p] w fun e w' => e = .returned (.bool (Lib.hasPrefix s.data.toList p.data.toList)) ∧ w' = w := Any.strings_HasPrefix lays99 s p w
end Go.Proofs.YtemlceicmpcboaaGreatDoor.Lx

namespace Go.Proofs.YtemlceicmpcboaaGreatDoor
open Go.RowKit

/-- Bytes as a row's cells. -/
def bv (l : List UInt8) : List Value := l.map fun b => .int .u8 (b.toNat : Int)

theorem bv_append (a b : List UInt8) : bv (a ++ b) = bv a ++ bv b := by simp [bv]

/-- A string of the bytes of an owned row, nil or not. -/
theorem run_convert_owned {P : Program} {w : World} {base : Nat} {src dst e : TypeId} {v : Value} {l : List UInt8} (hs : P.underlying src = some (.slice e)) (he : P.underlying e = some (.int .u8)) (hd : P.underlying dst = some .string)
    (hown : w.ownsRow base e 1 v l.length (bv l)) : (convert src dst v).run P w = .ok (.string ⟨l.toArray⟩) w := by
  rcases hown.2 with ⟨hv, h0⟩ | ⟨g, cap, cur, hv, hbg, hg, hnc, hcm, hcs, htake⟩
  · subst hv
    have hl : l = [] := List.eq_nil_of_length_eq_zero h0
    subst hl
    rw [run_convert_bytes_string w src dst e none 0 0 hs he hd]
    simp [Conv.bytesToString]
    rfl
  · subst hv
    refine run_convert_bytes_back w src dst e ⟨g, 0, none⟩ cap l hs he hd (fun i hi => ?_)
    rw [Addr.add_lit, Nat.zero_add, hown.cellAt i (by omega)]
    simp [bv, List.getElem?_eq_getElem hi]

theorem news_at (W : World) (cs : Array Value) (e : TypeId) : ∀ j u, cs.toList[j]? = some u → (W.alloc (.cells cs e)).cell? ((⟨W.heap.size, 0, none⟩ : Addr).add j) = some u := by
  intro j u h
  rw [Addr.add_lit, Nat.zero_add, World.cell?_alloc_mark]
  simpa using h

theorem bv_one (l : List UInt8) : ∀ u ∈ bv l, u.oneCell' = true := by
  intro u hu
  simp [bv] at hu
  obtain ⟨b, _, rfl⟩ := hu
  rfl

/-- What an append to an owned row keeps of the world below. -/
theorem below_append {B : Nat} {w wr w2 : World} {v : Value} {o : Obj} {e : TypeId} {n : Nat} {xs : List Value} (hb : Below B w wr) (hB : B ≤ wr.heap.size) (hown : wr.ownsRow B e 1 v n xs) (hg : (wr.alloc o).grownBy w2 v.ownBlock) : Below B w w2 :=
  (hb.alloc hB o).grown hg (by simp; omega) (fun k hk => (hown.lt k hk).1)

theorem below_append_drew {B : Nat} {w wr w2 : World} {v : Value} {o : Obj} {e : TypeId} {n : Nat} {xs : List Value} (hb : Below B w wr) (hB : B ≤ wr.heap.size) (hown : wr.ownsRow B e 1 v n xs) (hg : (wr.alloc o).drew.grownBy w2 v.ownBlock) : Below B w w2 :=
  (hb.alloc hB o).drew.grown hg (by simp; omega) (fun k hk => (hown.lt k hk).1)

end Go.Proofs.YtemlceicmpcboaaGreatDoor
namespace Go.Proofs.YtemlceicmpcboaaGreatDoor.Dk
open Go.RowKit

/-- A drawn region whose head reads, in a world of one name. -/
theorem region_still_tail {P : Program} {id : Nat} {Q : Exit → Act → World → Prop} {a : Act} {w : World} {l : List Oper} (n : Nat) (hm : P.follows .mixedOrders = true) (hB : Region.lexTailB .any l.toArray n = true)
    (w1 : World) (hw : w.drew = w1) (h : wpStill P l.toArray w1 (fun a' => wpList P l.toArray Q (l.drop n) a' w1) (l.take n) a) : (Code.region id l.toArray true).wp P Q a w := by
  subst hw
  exact wp_region_still_tail n hm hB h

/-- A drawn region that only reads, in a world of one name. -/
theorem region_still {P : Program} {id : Nat} {Q : Exit → Act → World → Prop} {a : Act} {w : World} {l : List Oper} (hm : P.follows .mixedOrders = true) (hB : Region.lexB .any l.toArray = true)
    (w1 : World) (hw : w.drew = w1) (h : wpStill P l.toArray w1 (fun a' => Q .normal a' w1) l a) : (Code.region id l.toArray true).wp P Q a w := by
  subst hw
  exact wp_region_still_lit hm hB h

/-- One name for a world that has drawn. -/
theorem drawn_world (w0 : World) : ∃ w1 : World, Hid (w0.drew = w1) ∧ (∀ a, w1.cell? a = w0.cell? a) ∧ (∀ a, w1.frozen? a = w0.frozen? a) ∧ Hid (w1.heap = w0.heap) ∧ Hid (Below w0.heap.size w0 w1) :=
  ⟨_, rfl, fun _ => rfl, fun _ => rfl, rfl, ⟨rfl, rfl, rfl, Nat.le_refl _, fun _ _ => rfl⟩⟩

theorem held_true {P : Program} {md : Region.Mode} {ops : Array Oper} {Q : Exit → Act → World → Prop} : ∀ (fuel : Nat) (listed : Array Bool) (a : Act) (w : World), wpAny P md ops Q fuel listed a w → wpAnyH P md ops Q (fun _ => True) fuel listed a w
  | 0, _, _, _, h => h
  | fuel + 1, _, _, _, h => ⟨h.1, fun i hi => wpOp_mono (fun a' w' h' => ⟨trivial, held_true fuel _ a' w' h'⟩) (h.2 i hi)⟩

/-- What is left of a drawn region comes up one behind the other. -/
theorem held_rest {P : Program} {md : Region.Mode} {ops : Array Oper} {Q : Exit → Act → World → Prop} (n fuel : Nat) {listed : Array Bool} {a : Act} {w : World} (hn : (ops.toList.drop n).length = fuel)
    (hq : Region.seqB md ops (ops.toList.drop n).length n listed = true) (h : wpList P ops Q (ops.toList.drop n) a w) : wpAnyH P md ops Q (fun _ => True) fuel listed a w := by
  subst hn
  exact held_true _ _ _ _ (wpAny_of_seq (ops.toList.drop n) n _ _ _ (fun j => by simp [List.getElem?_drop]) hq h)

theorem held_rest_at {P : Program} {md : Region.Mode} {ops : Array Oper} {Q : Exit → Act → World → Prop} (n fuel : Nat) (b : Act) {listed : Array Bool} {a : Act} {w : World} (hab : a = b) (hn : (ops.toList.drop n).length = fuel)
    (hq : Region.seqB md ops (ops.toList.drop n).length n listed = true) (h : wpList P ops Q (ops.toList.drop n) b w) : wpAnyH P md ops Q (fun _ => True) fuel listed a w := by
  subst hab
  exact held_rest n fuel hn hq h

theorem yieldsIf_load_cell {P : Program} {ops : Array Oper} {S : World → Prop} {op : Oper} {a : Act} (hw : Region.wanted op (yielded ops a.tmps) = true) (ty : TypeId) (x : Operand) (ho : op.op = .load ty x)
    (ad : Addr) (hx : a.eval x = .pointer (some ad)) (v : Value) (hS : ∀ w, S w → w.cell? ad = some v)
    (hu : ∀ w, (isAgg ty).run P w = .ok false w) : YieldsIf P ops S op v a :=
  .inl ⟨hw, fun w hw' => by
    have hc := hS w hw'
    have hl : (loadVar ty ad).run P w = .ok v w := by simp [loadVar, hu, hc, go_sem]
    unfold execOp
    simp only [ho, hx, Instr.loadAt, Instr.sureAddr, Sem.run_bind, Sem.run_pure, Result.andThen_ok, hl]⟩

/-- An operation that runs, in a drawn region. -/
theorem wpOp_run {P : Program} {ops : Array Oper} {Q : Exit → Act → World → Prop} {K : Act → World → Prop} {i : Nat} {o : Oper} {a : Act} {w w' : World} {v : Value} (hi : ops[i]? = some o) (hw : Region.wanted o (yielded ops a.tmps) = true)
    (hr : (execOp a.eval o).run P w = .ok (.value v) w') (h : K (a.put o.dst v) w') : wpOp P ops Q i K a w := by
  unfold Go.wpOp
  simp only [hi, hw, if_true, Oper.wp, hr, Oper.upon]
  exact .inl h

/-- An operation that runs, in a list. -/
theorem wpList_run {P : Program} {ops : Array Oper} {rest : List Oper} {Q : Exit → Act → World → Prop} {o : Oper} {a : Act} {w w' : World} {v : Value} (hg : o.guard = none)
    (hr : (execOp a.eval o).run P w = .ok (.value v) w') (h : wpList P ops Q rest (a.put o.dst v) w') : wpList P ops Q (o :: rest) a w :=
  wpList_plain hg fun K hK => by
    simp only [Oper.wp, hr, Oper.upon]
    exact hK _ _ h

/-- A drawn region whose orders are gone through by hand, in a world of one name. -/
theorem region_held_at {P : Program} {id : Nat} {ops : Array Oper} {Q : Exit → Act → World → Prop} {a : Act} {w : World} (hm : P.follows .mixedOrders = true)
    (w1 : World) (hw : w.drew = w1) (h : wpAnyH P .any ops (NoPanic Q) (fun _ => True) ops.size (Array.replicate ops.size false) a w1) : (Code.region id ops true).wp P Q a w := by
  subst hw
  exact wp_region_noPanic (wp_region_held hm h)

theorem chain2 {w w1 w2 : World} (h : Below w.heap.size w w1) (k : Below w1.heap.size w1 w2) : Below w.heap.size w w2 := h.trans (k.mono h.size)

theorem below_setCells {B : Nat} {w w' : World} (_h : Below B w w') (g : Nat) (hg : B ≤ g) : ∀ (vs : List Value) (o : Nat) (w' : World), Below B w w' → Below B w (w'.setCells g o vs)
  | [], _, _, h => h
  | v :: r, o, w', h => by
    rw [World.setCells]
    exact below_setCells h g hg r (o + 1) _ (h.setCell (by simpa using hg) v)

theorem size_setCells (g : Nat) : ∀ (vs : List Value) (o : Nat) (w : World), (w.setCells g o vs).heap.size = w.heap.size
  | [], _, _ => rfl
  | v :: r, o, w => by
    rw [World.setCells, size_setCells g r (o + 1)]
    simp

theorem block_setCells (g k : Nat) (hk : k ≠ g) : ∀ (vs : List Value) (o : Nat) (w : World), (w.setCells g o vs).heap[k]? = w.heap[k]?
  | [], _, _ => rfl
  | v :: r, o, w => by
    rw [World.setCells, block_setCells g k hk r (o + 1)]
    exact Below.heap_setCell _ _ _ _ (by simpa using hk)

theorem range_new (W : World) (l : List Value) (u : TypeId) : (W.alloc (.cells l.toArray u)).rangeAt W.heap.size 0 l := fun j v hv => by
  rw [Nat.zero_add, World.cell?_alloc_mark]; simpa using hv

theorem there_new (W : World) (Z : Array Value) (u : TypeId) : (W.alloc (.cells Z u)).there W.heap.size 0 Z.size := fun j hj => by
  rw [Nat.zero_add]
  refine ⟨?_, frozen_of_row _ _ _ Z u (heap_alloc_new W _)⟩
  rw [cell_of_row _ _ _ Z u (0, 0) (heap_alloc_new W _), Array.getElem?_eq_getElem hj]; rfl

theorem there_setCell {w : World} {b o n : Nat} (h : w.there b o n) (a : Addr) (v : Value) : (w.setCell a v).there b o n := fun j hj => by
  obtain ⟨h1, h2⟩ := h j hj
  refine ⟨?_, by simpa using h2⟩
  obtain ⟨u, hu⟩ := Option.isSome_iff_exists.1 h1
  by_cases e : a = ⟨b, o + j, none⟩
  · subst e; rw [World.cell?_setCell_same _ _ _ hu]; rfl
  · rw [World.cell?_setCell_other _ _ _ _ e, hu]; rfl

theorem rangeAt_setCell {w : World} {g o : Nat} {cs : List Value} (h : w.rangeAt g o cs) (i : Nat) (v : Value) (hi : i < o ∨ o + cs.length ≤ i) : (w.setCell ⟨g, i, none⟩ v).rangeAt g o cs := fun j u hu => by
  have hj : j < cs.length := (List.getElem?_eq_some_iff.1 hu).1
  rw [World.cell?_setCell_other _ _ _ _ (by intro e; simp at e <;> omega)]
  exact h j u hu

theorem rangeAt_add {w : World} {b o : Nat} {xs ys : List Value} (h1 : w.rangeAt b o xs) (h2 : w.rangeAt b (o + xs.length) ys) : w.rangeAt b o (xs ++ ys) := fun j v hv => by
  by_cases hj : j < xs.length
  · rw [List.getElem?_append_left hj] at hv; exact h1 j v hv
  · rw [List.getElem?_append_right (by omega)] at hv
    have := h2 _ v hv
    rwa [show o + xs.length + (j - xs.length) = o + j by omega] at this

theorem rangeAt_left {w : World} {b o : Nat} {xs ys : List Value} (h : w.rangeAt b o (xs ++ ys)) : w.rangeAt b o xs := fun j v hv => by
  have hj : j < xs.length := (List.getElem?_eq_some_iff.1 hv).1
  exact h j v (by rw [List.getElem?_append_left hj]; exact hv)
theorem rangeAt_right {w : World} {b o n : Nat} {xs ys : List Value} (h : w.rangeAt b o (xs ++ ys)) (hn : n = xs.length) : w.rangeAt b (o + n) ys := fun j v hv => by
  subst hn
  have := h (xs.length + j) v (by rw [List.getElem?_append_right (by omega)]; simpa using hv)
  rwa [← Nat.add_assoc] at this

theorem rangeAt_block {w w' : World} {b o : Nat} {cs : List Value} (h : w.rangeAt b o cs) (hb : w'.heap[b]? = w.heap[b]?) : w'.rangeAt b o cs := fun j v hv =>
  (World.cell?_of_block (w := w) (w' := w') (a := ⟨b, o + j, none⟩) hb).trans (h j v hv)
theorem there_block {w w' : World} {b o n : Nat} (h : w.there b o n) (hb : w'.heap[b]? = w.heap[b]?) : w'.there b o n := fun j hj => by
  rw [World.cell?_of_block (w := w) (w' := w') (a := ⟨b, o + j, none⟩) hb, World.frozen?_of_block (w := w) (w' := w') (a := ⟨b, o + j, none⟩) hb]; exact h j hj

theorem ownsRow_block {w w' : World} {base : Nat} {e : TypeId} {size : Nat} {v : Value} {n : Nat} {xs : List Value} (h : w.ownsRow base e size v n xs) (hb : ∀ b, v.ownBlock = some b → w'.heap[b]? = w.heap[b]?) : w'.ownsRow base e size v n xs := by
  refine ⟨h.1, ?_⟩
  rcases h.2 with h0 | ⟨g, cap, cur, hv, hbg, hg, rest⟩
  · exact .inl h0
  · exact .inr ⟨g, cap, cur, hv, hbg, (hb g (by rw [hv]; rfl)).trans hg, rest⟩

theorem ownsRow_base {w : World} {base base' : Nat} {e : TypeId} {size : Nat} {v : Value} {n : Nat} {xs : List Value} (h : w.ownsRow base e size v n xs) (hb : ∀ b, v.ownBlock = some b → base' ≤ b) : w.ownsRow base' e size v n xs := by
  refine ⟨h.1, ?_⟩
  rcases h.2 with h0 | ⟨g, cap, cur, hv, hbg, rest⟩
  · exact .inl h0
  · exact .inr ⟨g, cap, cur, hv, hb g (by rw [hv]; rfl), rest⟩

theorem ownsRow_range {w : World} {base : Nat} {e : TypeId} {size : Nat} {g n cap : Nat} {xs : List Value} (h : w.ownsRow base e size (.slice (some ⟨g, 0, none⟩) n cap) n xs) : w.rangeAt g 0 xs := fun j v hv => by
  have := h.cells (g := g) rfl j v hv
  rwa [Addr.add_lit] at this

theorem ownsMap_block {H : Type} {w w' : World} {P : Program} {k : TypeId} {R : Value → Option (DataW H × List MemPlace)} {b n : Nat} {D : DataW H} (h : w.ownsMap P k R b n D) (hb : w'.heap[b]? = w.heap[b]?) : w'.ownsMap P k R b n D := by
  obtain ⟨es, clock, h1, h2⟩ := h
  exact ⟨es, clock, hb.trans h1, h2⟩

/-- All blocks that lay there, but those of F, are as they were. -/
structure Only (F : Nat → Prop) (w w' : World) : Prop where
  os : w'.os = w.os
  tape : w'.tape = w.tape
  output : w'.output = w.output
  size : w.heap.size ≤ w'.heap.size
  block : ∀ k, k < w.heap.size → ¬F k → w'.heap[k]? = w.heap[k]?

theorem Only.refl (F : Nat → Prop) (w : World) : Only F w w := ⟨rfl, rfl, rfl, Nat.le_refl _, fun _ _ _ => rfl⟩

theorem Only.trans {F G : Nat → Prop} {a b c : World} (h : Only F a b) (k : Only G b c) (hG : ∀ i, i < a.heap.size → G i → F i) : Only F a c :=
  ⟨k.os.trans h.os, k.tape.trans h.tape, k.output.trans h.output, Nat.le_trans h.size k.size, fun i hi hf => (k.block i (Nat.lt_of_lt_of_le hi h.size) (fun hg => hf (hG i hi hg))).trans (h.block i hi hf)⟩

theorem Only.mono {F G : Nat → Prop} {a b : World} (h : Only F a b) (hFG : ∀ i, F i → G i) : Only G a b := ⟨h.os, h.tape, h.output, h.size, fun i hi hg => h.block i hi (fun hf => hg (hFG i hf))⟩

theorem Only.of_below {F : Nat → Prop} {w w' : World} (h : Below w.heap.size w w') : Only F w w' := ⟨h.os, h.tape, h.output, h.size, fun k hk _ => h.block k hk⟩

theorem Only.drew {F : Nat → Prop} {a b : World} (h : Only F a b) : Only F a b.drew := ⟨h.os, h.tape, h.output, h.size, h.block⟩

theorem Only.alloc {F : Nat → Prop} {a b : World} (h : Only F a b) (o : Obj) : Only F a (b.alloc o) :=
  h.trans (Only.of_below (F := F) ((Below.refl _ _).alloc (Nat.le_refl _) _)) (fun _ _ h => h)

theorem Only.setCell {F : Nat → Prop} {a b : World} (h : Only F a b) (p : Addr) (hp : F p.block) (v : Value) : Only F a (b.setCell p v) :=
  have hb : Below 0 b (b.setCell p v) := (Below.refl 0 b).setCell (Nat.zero_le _) v
  h.trans (G := F) ⟨hb.os, hb.tape, hb.output, hb.size, fun _k _ hk => Below.heap_setCell _ _ _ _ (fun e => hk (e ▸ hp))⟩ (fun _ _ h => h)

theorem Only.setCells {F : Nat → Prop} {a : World} (g : Nat) (hg : F g) : ∀ (vs : List Value) (o : Nat) (b : World), Only F a b → Only F a (b.setCells g o vs)
  | [], _, _, h => h
  | v :: r, o, b, h => by
    rw [World.setCells]
    exact Only.setCells g hg r (o + 1) _ (h.setCell ⟨g, o, none⟩ hg v)

theorem Only.below {F : Nat → Prop} {B : Nat} {a w w' : World} (k : Only F w w') (h : Below B a w) (hF : ∀ i, F i → B ≤ i) (ha : B ≤ a.heap.size) : Below B a w' :=
  ⟨k.os.trans h.os, k.tape.trans h.tape, k.output.trans h.output, Nat.le_trans h.size k.size, fun i hi => (k.block i (by have := h.size; omega) (fun hf => by have := hF i hf; omega)).trans (h.block i hi)⟩

theorem Only.of_grown {F : Nat → Prop} {w w' : World} {row : Option Nat} (h : w.grownBy w' row) (hr : ∀ k, row = some k → F k) : Only F w w' :=
  ⟨h.os, h.tape, h.output, h.size, fun k hk hf => h.block k hk (fun e => hf (hr k e.symm))⟩

theorem slice_all {P : Program} (t e : TypeId) (n : Nat) (hu : P.underlying t = some (.array n e)) (hs : (P.info? e).map (·.size) = some 1) (b o : Nat) (w : World) :
    (Instr.sliceAt t (.pointer (some ⟨b, o, none⟩)) none none none).run P w = .ok (.slice (some ⟨b, o, none⟩) n n) w := by
  have hz : (sizeOf e).run P w = .ok 1 w := by
    cases hq : P.info? e with
    | none => simp [hq] at hs
    | some i => simp [hq] at hs; simp [sizeOf, typeInfo, hq, hs]
  simp [Instr.sliceAt, Instr.sureAddr, run_underlying hu, Instr.sliceBounds, hz, Addr.add_mid]

theorem convert_range {P : Program} {w : World} {src dst e : TypeId} (g o cap n : Nat) (l : List UInt8) (hs : P.underlying src = some (.slice e)) (he : P.underlying e = some (.int .u8)) (hd : P.underlying dst = some .string)
    (hn : l.length = n) (h : w.rangeAt g o (bv l)) : (convert src dst (.slice (some ⟨g, o, none⟩) n cap)).run P w = .ok (.string ⟨l.toArray⟩) w := by
  subst hn
  refine run_convert_bytes_back w src dst e ⟨g, o, none⟩ cap l hs he hd (fun i hi => ?_)
  rw [Addr.add_mid]
  exact h i _ (by simp [bv, List.getElem?_eq_getElem hi])

theorem run_copy_string {P : Program} (w : World) (dT sT ty elem : TypeId) (b o dLen dCap n : Nat) (r : ByteArray)
    (hu : P.underlying dT = some (.slice elem)) (hs : (P.info? elem).map (·.size) = some 1) (hn : n = Nat.min r.size dLen)
    (ht : w.there b o n) :
    (Builtin.copy_ #[dT, sT] ty #[.slice (some ⟨b, o, none⟩) dLen dCap, .string r]).run P w = .ok (goInt n) (w.setCells b o (bv (r.data.toList.take n))) := by
  have hl : (bv (r.data.toList.take n)).length = n := by
    have : r.data.toList.length = r.size := by simp
    have : n ≤ r.size := by rw [hn]; exact Nat.min_le_left _ _
    simp [bv]; omega
  have hst := run_storeCells_cells (P := P) b o (bv (r.data.toList.take n)) 0 w (fun j hj => by rw [hl] at hj; have := (ht j hj).1; simpa using this) (fun j hj => by rw [hl] at hj; have := (ht j hj).2; simpa using this) (bv_one _)
  have hcells : ((r.extract 0 n).data.map fun b => Value.int .u8 b.toNat).toList = bv (r.data.toList.take n) := by
    simp [bv, ByteArray.data_extract]
  cases hq : P.info? elem with
  | none => simp [hq] at hs
  | some i =>
    have hi : i.size = 1 := by simpa [hq] using hs
    simp [Builtin.copy_, run_underlying hu, Builtin.lenOf, Builtin.firstCells, sizeOf, typeInfo, hq, ← hn]
    have h3 : List.take n (List.map (fun b => Value.int .u8 b.toNat) r.data.toList) = bv (r.data.toList.take n) := by simp [bv, List.map_take]
    rw [h3, hst]
    simp

def strOf (l : List UInt8) : ByteArray := ⟨l.toArray⟩
theorem strOf_size (l : List UInt8) : (strOf l).size = l.length := by simp [strOf, ByteArray.size]
theorem strOf_toList (l : List UInt8) : (strOf l).data.toList = l := by simp [strOf]
theorem strOf_self (s : ByteArray) : strOf s.data.toList = s := by apply ByteArray.ext; simp [strOf]
theorem strOf_inj {a b : List UInt8} (h : strOf a = strOf b) : a = b := by
  have := congrArg (fun s : ByteArray => s.data.toList) h
  simpa [strOf] using this
theorem toS (s : ByteArray) : ∃ l : List UInt8, s = strOf l ∧ l.length = s.size := ⟨s.data.toList, (strOf_self s).symm, by simp⟩

end Go.Proofs.YtemlceicmpcboaaGreatDoor.Dk
namespace Go.Proofs.YtemlceicmpcboaaGreatDoor.Lx
open Go.RowKit Dk

def Tk.cells (t : Tk) : List Value := [.int .i64 t.kind, .string (strOf t.text), .int .i64 t.n, .int .i64 t.place]
def Tk.zero : Tk := ⟨0, [], 0, 0⟩

/-- Block B holds a token. -/
structure TB (W : World) (B : Nat) (t : Tk) : Prop where
  cells : W.rangeAt B 0 t.cells
  room : W.there B 0 4
  lt : B < W.heap.size

theorem TB.of_block {W W' : World} {B : Nat} {t : Tk} (h : TB W B t) (hb : W'.heap[B]? = W.heap[B]?) (hs : W.heap.size ≤ W'.heap.size) : TB W' B t := ⟨rangeAt_block h.cells hb, there_block h.room hb, Nat.lt_of_lt_of_le h.lt hs⟩
theorem TB.later {W W' : World} {B : Nat} {t : Tk} (h : TB W B t) (hb : Below W.heap.size W W') : TB W' B t := h.of_block (hb.block B h.lt) hb.size
theorem tb_new (w : World) (t : Tk) (ty : TypeId) : TB (w.alloc (.cells t.cells.toArray ty)) w.heap.size t := ⟨range_new w t.cells ty, there_new w t.cells.toArray ty, by simp⟩
theorem TB.set {W : World} {B : Nat} {t : Tk} (h : TB W B t) (t' : Tk) : TB (W.setCells B 0 t'.cells) B t' :=
  ⟨World.rangeAt_setCells_same W B 0 t'.cells h.room, World.there_setCells h.room _ _ _, by rw [Dk.size_setCells]; exact h.lt⟩
theorem t_one (t : Tk) : ∀ u ∈ t.cells, u.oneCell' = true := by
  intro u hu
  simp [Tk.cells] at hu
  rcases hu with rfl | rfl | rfl | rfl <;> rfl
theorem t_all (t : Tk) : t.cells.toArray.all (·.oneCell') = true := all_oneCell_toArray (t_one t)
theorem t_info (t : Tk) : (Tryz.prog.info? 72).map (·.size) = some t.cells.length := by kernel_rfl
theorem t_infoA (t : Tk) : (Tryz.prog.info? 72).map (·.size) = some t.cells.toArray.size := t_info t
theorem t_info3 : (Tryz.prog.info? 72).map (fun i => (i.zero, i.size, i.bytes)) = some (some (.agg Tk.zero.cells.toArray), 4, 40) := by kernel_rfl

/-! results that lie in a cell of their own -/
theorem results_cell3 {P : Program} {fn : Func} {t u v : Tmp} {ty : TypeId} {d : TypeDesc} {cs : List Value} {b : Nat} (h : fn.results = #[.cell t ty, .tmp u, .tmp v]) (tmps : Array Value) (w : World) (ht : tmps.getD t undef = .pointer (some ⟨b, 0, none⟩)) (hc : w.rangeAt b 0 cs)
    (hu : P.underlying ty = some d) (hd : d.isRow = true) (hi : (P.info? ty).map (·.size) = some cs.length) : (results fn tmps).run P w = .ok (.tuple #[.agg cs.toArray, tmps.getD u undef, tmps.getD v undef]) w := by
  have hl := run_loadVar_mid (P := P) w b 0 ty cs d hc hu hd hi
  simp only [Array.getD_eq_getD_getElem?] at ht
  simp [results, h, ht, hl, asAddr]

theorem strOf_tl (l : List UInt8) : (strOf l).toList = l := ByteArray.toList_mk l
theorem str_beq (a b : List UInt8) : ((strOf a).toList == (strOf b).toList) = decide (a = b) := by
  rw [strOf_tl, strOf_tl]
  by_cases h : a = b
  · rw [decide_eq_true h]; subst h; simp
  · rw [decide_eq_false h]; exact beq_false_of_ne h

/-! the keys -/
set_option maxHeartbeats 4000000 in
theorem key_yes (l : List UInt8) (h : l ∈ keyList) (w : World) : Calls Tryz.prog 149 #[.string (strOf l)] w fun e w' => e = .returned (.bool true) ∧ w = w' := by
  have hb : ∀ m, m ∈ keyList → ((strOf l).toList == m) = decide (l = m) := fun m _ => by
    have := str_beq l m
    rwa [strOf_tl m] at this
  simp only [keyList, List.mem_cons, List.not_mem_nil, or_false, forall_eq_or_imp, forall_eq] at hb
  obtain ⟨h1, h2, h3, h4, h5, h6, h7, h8, h9, h10, h11, h12, h13, h14, h15, h16, h17, h18, h19, h20⟩ := hb
  simp only [keyList, List.mem_cons, List.not_mem_nil, or_false] at h
  generalize strOf l = s at *
  rcases h with rfl | rfl | rfl | rfl | rfl | rfl | rfl | rfl | rfl | rfl | rfl | rfl | rfl | rfl | rfl | rfl | rfl | rfl | rfl | rfl
  all_goals
    first | replace h1 := h1.trans (show decide _ = true by decide) | replace h1 := h1.trans (show decide _ = false by decide)
    first | replace h2 := h2.trans (show decide _ = true by decide) | replace h2 := h2.trans (show decide _ = false by decide)
    first | replace h3 := h3.trans (show decide _ = true by decide) | replace h3 := h3.trans (show decide _ = false by decide)
    first | replace h4 := h4.trans (show decide _ = true by decide) | replace h4 := h4.trans (show decide _ = false by decide)
    first | replace h5 := h5.trans (show decide _ = true by decide) | replace h5 := h5.trans (show decide _ = false by decide)
    first | replace h6 := h6.trans (show decide _ = true by decide) | replace h6 := h6.trans (show decide _ = false by decide)
    first | replace h7 := h7.trans (show decide _ = true by decide) | replace h7 := h7.trans (show decide _ = false by decide)
    first | replace h8 := h8.trans (show decide _ = true by decide) | replace h8 := h8.trans (show decide _ = false by decide)
    first | replace h9 := h9.trans (show decide _ = true by decide) | replace h9 := h9.trans (show decide _ = false by decide)
    first | replace h10 := h10.trans (show decide _ = true by decide) | replace h10 := h10.trans (show decide _ = false by decide)
    first | replace h11 := h11.trans (show decide _ = true by decide) | replace h11 := h11.trans (show decide _ = false by decide)
    first | replace h12 := h12.trans (show decide _ = true by decide) | replace h12 := h12.trans (show decide _ = false by decide)
    first | replace h13 := h13.trans (show decide _ = true by decide) | replace h13 := h13.trans (show decide _ = false by decide)
    first | replace h14 := h14.trans (show decide _ = true by decide) | replace h14 := h14.trans (show decide _ = false by decide)
    first | replace h15 := h15.trans (show decide _ = true by decide) | replace h15 := h15.trans (show decide _ = false by decide)
    first | replace h16 := h16.trans (show decide _ = true by decide) | replace h16 := h16.trans (show decide _ = false by decide)
    first | replace h17 := h17.trans (show decide _ = true by decide) | replace h17 := h17.trans (show decide _ = false by decide)
    first | replace h18 := h18.trans (show decide _ = true by decide) | replace h18 := h18.trans (show decide _ = false by decide)
    first | replace h19 := h19.trans (show decide _ = true by decide) | replace h19 := h19.trans (show decide _ = false by decide)
    first | replace h20 := h20.trans (show decide _ = true by decide) | replace h20 := h20.trans (show decide _ = false by decide)
    go_enter Tryz.func149, Tryz.ntmps149
    go_wp2
    go_ret
    exact ⟨rfl, rfl⟩

set_option maxHeartbeats 1000000 in
theorem key_no (l : List UInt8) (h : l ∉ keyList) (w : World) : Calls Tryz.prog 149 #[.string (strOf l)] w fun e w' => e = .returned (.bool false) ∧ w = w' := by
  have hb : ∀ m, m ∈ keyList → ((strOf l).toList == m) = false := fun m hm => by
    rw [strOf_tl]; exact beq_false_of_ne (fun e => h (e ▸ hm))
  simp only [keyList, List.mem_cons, List.not_mem_nil, or_false, forall_eq_or_imp, forall_eq] at hb
  obtain ⟨h1, h2, h3, h4, h5, h6, h7, h8, h9, h10, h11, h12, h13, h14, h15, h16, h17, h18, h19, h20⟩ := hb
  generalize strOf l = s at *
  go_enter Tryz.func149, Tryz.ntmps149
  go_wp2
  go_ret
  exact ⟨rfl, rfl⟩

theorem isKey_iff (l : List UInt8) : isKey l = true ↔ l ∈ keyList := by unfold isKey; exact List.contains_iff_mem
theorem key_any (l : List UInt8) (w : World) : Calls Tryz.prog 149 #[.string (strOf l)] w fun e w' => e = .returned (.bool (isKey l)) ∧ w = w' := by
  cases h : isKey l with
  | true => exact key_yes l ((isKey_iff l).1 h) w
  | false => exact key_no l (fun hm => by rw [(isKey_iff l).2 hm] at h; cases h) w

/-! marks -/
theorem markOf_cons (l m : List UInt8) (r : List (List UInt8)) : markOf l (m :: r) = if m.isPrefixOf l then m.length else markOf l r := rfl
theorem indexByte_cons (x : UInt8) (cs : List UInt8) (c : UInt8) : Lib.indexByte (x :: cs) c = if x == c then 0 else if Lib.indexByte cs c == -1 then -1 else Lib.indexByte cs c + 1 := rfl
theorem markOf_ones (c : UInt8) (r : List UInt8) : ∀ cs : List UInt8, markOf (c :: r) (cs.map fun x => [x]) = if 0 ≤ Lib.indexByte cs c then 1 else 0
  | [] => by rw [if_neg (by simp [Lib.indexByte])]; rfl
  | x :: cs => by
    rw [List.map_cons, markOf_cons, markOf_ones c r cs]
    have hge := Lib.indexByte_ge cs c
    rw [indexByte_cons]
    by_cases h : x = c
    · subst h; simp
    · have h1 : (x == c) = false := beq_false_of_ne h
      have h2 : [x].isPrefixOf (c :: r) = false := by simp [List.isPrefixOf, h]
      rw [h1, h2]
      by_cases h3 : Lib.indexByte cs c = -1
      · rw [h3]; simp
      · have : (Lib.indexByte cs c == -1) = false := by simpa using h3
        rw [this]
        simp only [Bool.false_eq_true, if_false]
        rw [if_pos (by omega), if_pos (by omega)]
def ones : List UInt8 := [40, 41, 123, 125, 91, 93, 44, 59, 46, 47, 61, 60, 43, 45, 42, 37]
theorem marks_drop : markList.drop 4 = ones.map fun x => [x] := rfl

set_option maxHeartbeats 1000000 in
theorem markSize_any (c : UInt8) (r : List UInt8) (w : World) : Calls Tryz.prog 166 #[.string (strOf (c :: r))] w fun e w' => e = .returned (.int .i64 (markN (c :: r) : Nat)) ∧ Below w.heap.size w w' := by
  have HP : Hid (∀ m W, Calls Tryz.prog 189 #[.string (strOf (c :: r)), .string (strOf m)] W fun e w' => e = .returned (.bool (m.isPrefixOf (c :: r))) ∧ w' = W) := Lib.hid (fun m W => by
    have := strings_HasPrefix (strOf (c :: r)) (strOf m) W
    rw [strOf_toList, strOf_toList] at this
    exact this)
  have HX : Hid (∀ W, Calls Tryz.prog 190 #[.string ⟨#[40, 41, 123, 125, 91, 93, 44, 59, 46, 47, 61, 60, 43, 45, 42, 37]⟩, .int .u8 (c.toNat : Int)] W fun e w' => e = .returned (.int .i64 (Lib.indexByte ones c)) ∧ w' = W) := Lib.hid (fun W => by
    have := strings_IndexByte (strOf ones) (c.toNat : Int) W
    rw [strOf_toList, show ((c.toNat : Int).toNat).toUInt8 = c by simp] at this
    exact this)
  have H0 : Hid (markN (c :: r) = markOf (c :: r) (markList.drop 0)) := Lib.hid rfl
  have hpos : 0 < (strOf (c :: r)).size := by rw [strOf_size]; simp
  have hidx : ∀ W : World, (Instr.index 9 (.string (strOf (c :: r))) (.int .i64 0)).run Tryz.prog W = .ok (.int .u8 (c.toNat : Int)) W := fun W => by
    have h1 : ((strOf (c :: r))[0]'hpos) = c := rfl
    rw [← h1]
    go_simp
  generalize hs : strOf (c :: r) = s at *
  clear hs
  go_enter Tryz.func166, Tryz.ntmps166
  go_wp2
  have q : ∀ j u, #[Value.string ⟨#[61, 61]⟩, Value.string ⟨#[33, 61]⟩, Value.string ⟨#[60, 61]⟩, Value.string ⟨#[46, 46]⟩][j]? = some u → (w.alloc (.cells #[Value.string ⟨#[61, 61]⟩, Value.string ⟨#[33, 61]⟩, Value.string ⟨#[60, 61]⟩, Value.string ⟨#[46, 46]⟩] 9)).cell? ⟨w.heap.size, j, none⟩ = some u := fun j u h => by
    rw [World.cell?_alloc_mark]; simpa using h
  have q0 := q 0 _ rfl
  have q1 := q 1 _ rfl
  have q2 := q 2 _ rfl
  have q3 := q 3 _ rfl
  clear q
  have HB : Hid (Below w.heap.size w (w.alloc (.cells #[Value.string ⟨#[61, 61]⟩, Value.string ⟨#[33, 61]⟩, Value.string ⟨#[60, 61]⟩, Value.string ⟨#[46, 46]⟩] 9))) := Lib.hid ((Below.refl _ _).alloc (Nat.le_refl _) _)
  generalize w.alloc (.cells #[Value.string ⟨#[61, 61]⟩, Value.string ⟨#[33, 61]⟩, Value.string ⟨#[60, 61]⟩, Value.string ⟨#[46, 46]⟩] 9) = W1 at *
  go_loopw [7] (fun vi wr => ∃ j : Nat, j ≤ 4 ∧ vi = .int .i64 (j : Int) ∧ wr = W1 ∧ Hid (markN (c :: r) = markOf (c :: r) (markList.drop j))) (fun vi _ => 4 - (intOf vi).toNat)
  case atStart => exact ⟨0, Nat.zero_le _, rfl, rfl, H0⟩
  case round =>
    obtain ⟨j, hj, rfl, rfl, hm⟩ := hrel
    rcases (show j = 0 ∨ j = 1 ∨ j = 2 ∨ j = 3 ∨ j = 4 by omega) with rfl | rfl | rfl | rfl | rfl
    · have hm' := hm.out
      rw [show markList.drop 0 = [61, 61] :: markList.drop 1 from rfl, markOf_cons] at hm'
      have C := Lib.hid (HP.out [61, 61])
      cases hb : List.isPrefixOf [61, 61] (c :: r) with
      | true =>
        rw [hb] at hm' C
        have HM := Lib.hid hm'
        clear hb hm hm' H0
        go_wp2_with (go_at_call 189; refine (C.out _).mono ?_; rintro e w' ⟨rfl, rfl⟩)
        go_ret
        exact ⟨by rw [HM.out]; rfl, HB.out⟩
      | false =>
        rw [hb] at hm' C
        have HM := Lib.hid hm'
        clear hb hm hm' H0
        go_wp2_with (go_at_call 189; refine (C.out _).mono ?_; rintro e w' ⟨rfl, rfl⟩)
        go_roundw
        case rel => exact ⟨1, by omega, by go_num, by trivial, HM⟩
        case measure => simp [intOf]
    · have hm' := hm.out
      rw [show markList.drop 1 = [33, 61] :: markList.drop 2 from rfl, markOf_cons] at hm'
      have C := Lib.hid (HP.out [33, 61])
      cases hb : List.isPrefixOf [33, 61] (c :: r) with
      | true =>
        rw [hb] at hm' C
        have HM := Lib.hid hm'
        clear hb hm hm' H0
        go_wp2_with (go_at_call 189; refine (C.out _).mono ?_; rintro e w' ⟨rfl, rfl⟩)
        go_ret
        exact ⟨by rw [HM.out]; rfl, HB.out⟩
      | false =>
        rw [hb] at hm' C
        have HM := Lib.hid hm'
        clear hb hm hm' H0
        go_wp2_with (go_at_call 189; refine (C.out _).mono ?_; rintro e w' ⟨rfl, rfl⟩)
        go_roundw
        case rel => exact ⟨2, by omega, by go_num, by trivial, HM⟩
        case measure => simp [intOf]
    · have hm' := hm.out
      rw [show markList.drop 2 = [60, 61] :: markList.drop 3 from rfl, markOf_cons] at hm'
      have C := Lib.hid (HP.out [60, 61])
      cases hb : List.isPrefixOf [60, 61] (c :: r) with
      | true =>
        rw [hb] at hm' C
        have HM := Lib.hid hm'
        clear hb hm hm' H0
        go_wp2_with (go_at_call 189; refine (C.out _).mono ?_; rintro e w' ⟨rfl, rfl⟩)
        go_ret
        exact ⟨by rw [HM.out]; rfl, HB.out⟩
      | false =>
        rw [hb] at hm' C
        have HM := Lib.hid hm'
        clear hb hm hm' H0
        go_wp2_with (go_at_call 189; refine (C.out _).mono ?_; rintro e w' ⟨rfl, rfl⟩)
        go_roundw
        case rel => exact ⟨3, by omega, by go_num, by trivial, HM⟩
        case measure => simp [intOf]
    · have hm' := hm.out
      rw [show markList.drop 3 = [46, 46] :: markList.drop 4 from rfl, markOf_cons] at hm'
      have C := Lib.hid (HP.out [46, 46])
      cases hb : List.isPrefixOf [46, 46] (c :: r) with
      | true =>
        rw [hb] at hm' C
        have HM := Lib.hid hm'
        clear hb hm hm' H0
        go_wp2_with (go_at_call 189; refine (C.out _).mono ?_; rintro e w' ⟨rfl, rfl⟩)
        go_ret
        exact ⟨by rw [HM.out]; rfl, HB.out⟩
      | false =>
        rw [hb] at hm' C
        have HM := Lib.hid hm'
        clear hb hm hm' H0
        go_wp2_with (go_at_call 189; refine (C.out _).mono ?_; rintro e w' ⟨rfl, rfl⟩)
        go_roundw
        case rel => exact ⟨4, by omega, by go_num, by trivial, HM⟩
        case measure => simp [intOf]
    · have hm' := hm.out
      rw [marks_drop, markOf_ones] at hm'
      by_cases h0 : 0 ≤ Lib.indexByte ones c
      · rw [if_pos h0] at hm'
        have HM := Lib.hid hm'
        generalize Lib.indexByte ones c = n at *
        clear hm hm' H0
        go_wp2_with (go_at_call 190; refine (HX.out _).mono ?_; rintro e w' ⟨rfl, rfl⟩)
        go_ret
        exact ⟨by rw [HM.out]; rfl, HB.out⟩
      · rw [if_neg h0] at hm'
        have HM := Lib.hid hm'
        generalize Lib.indexByte ones c = n at *
        have h1 : n < 0 := by omega
        clear hm hm' H0
        go_wp2_with (go_at_call 190; refine (HX.out _).mono ?_; rintro e w' ⟨rfl, rfl⟩)
        go_ret
        exact ⟨by rw [HM.out]; rfl, HB.out⟩

end Go.Proofs.YtemlceicmpcboaaGreatDoor.Lx
namespace Go.Proofs.YtemlceicmpcboaaGreatDoor.Tr
open Go.RowKit Dk Lx

/-- A node. -/
structure Nd where
  kind : Int
  kids : Int
  name : List UInt8
  n : Int
  text : List UInt8
deriving DecidableEq

def Nd.cells (x : Nd) : List Value := [.int .i64 x.kind, .int .i64 x.kids, .string (strOf x.name), .int .i64 x.n, .string (strOf x.text)]
def Nd.zero : Nd := ⟨0, 0, [], 0, []⟩
set_option maxRecDepth 100000 in
theorem n_one (x : Nd) : ∀ u ∈ x.cells, u.oneCell' = true := by
  intro u hu
  simp [Nd.cells] at hu
  rcases hu with rfl | rfl | rfl | rfl | rfl <;> rfl
set_option maxRecDepth 100000 in
theorem n_all (x : Nd) : x.cells.toArray.all (·.oneCell') = true := all_oneCell_toArray (n_one x)
set_option maxRecDepth 100000 in
theorem n_info (x : Nd) : (Tryz.prog.info? 29).map (·.size) = some x.cells.length := by kernel_rfl
set_option maxRecDepth 100000 in
theorem n_infoA (x : Nd) : (Tryz.prog.info? 29).map (·.size) = some x.cells.toArray.size := n_info x
set_option maxRecDepth 100000 in
theorem n_info3 : (Tryz.prog.info? 29).map (fun i => (i.zero, i.size, i.bytes)) = some (some (.agg Nd.zero.cells.toArray), 5, 56) := by kernel_rfl

/-- Block B holds a node. -/
structure NB (W : World) (B : Nat) (x : Nd) : Prop where
  cells : W.rangeAt B 0 x.cells
  room : W.there B 0 5
  lt : B < W.heap.size

set_option maxRecDepth 100000 in
theorem NB.of_block {W W' : World} {B : Nat} {x : Nd} (h : NB W B x) (hb : W'.heap[B]? = W.heap[B]?) (hs : W.heap.size ≤ W'.heap.size) : NB W' B x := ⟨rangeAt_block h.cells hb, there_block h.room hb, Nat.lt_of_lt_of_le h.lt hs⟩
set_option maxRecDepth 100000 in
theorem NB.later {W W' : World} {B : Nat} {x : Nd} (h : NB W B x) (hb : Below W.heap.size W W') : NB W' B x := h.of_block (hb.block B h.lt) hb.size
set_option maxRecDepth 100000 in
theorem nb_new (w : World) (x : Nd) (ty : TypeId) : NB (w.alloc (.cells x.cells.toArray ty)) w.heap.size x := ⟨range_new w x.cells ty, there_new w x.cells.toArray ty, by simp⟩
set_option maxRecDepth 100000 in
theorem NB.set {W : World} {B : Nat} {x : Nd} (h : NB W B x) (x' : Nd) : NB (W.setCells B 0 x'.cells) B x' :=
  ⟨World.rangeAt_setCells_same W B 0 x'.cells h.room, World.there_setCells h.room _ _ _, by rw [Dk.size_setCells]; exact h.lt⟩
set_option maxRecDepth 100000 in
theorem NB.at {W : World} {B : Nat} {x : Nd} (h : NB W B x) : W.cell? ⟨B, 0, none⟩ = some (.int .i64 x.kind) ∧ W.cell? ⟨B, 1, none⟩ = some (.int .i64 x.kids) ∧ W.cell? ⟨B, 2, none⟩ = some (.string (strOf x.name)) ∧ W.cell? ⟨B, 3, none⟩ = some (.int .i64 x.n) ∧ W.cell? ⟨B, 4, none⟩ = some (.string (strOf x.text)) :=
  ⟨h.cells 0 _ rfl, h.cells 1 _ rfl, h.cells 2 _ rfl, h.cells 3 _ rfl, h.cells 4 _ rfl⟩

set_option maxRecDepth 100000 in
theorem nb_zero (W : World) : NB (W.alloc (.cells #[.int .i64 0, .int .i64 0, .string ⟨#[]⟩, .int .i64 0, .string ⟨#[]⟩] 29)) W.heap.size Nd.zero := nb_new W Nd.zero _

set_option maxRecDepth 100000 in
/-- A node that was put into a new block. -/
theorem nb_put (W : World) (x : Nd) : NB ((W.alloc (.cells #[.int .i64 0, .int .i64 0, .string ⟨#[]⟩, .int .i64 0, .string ⟨#[]⟩] 29)).setCells W.heap.size 0 x.cells.toArray.toList) W.heap.size x ∧
    Below W.heap.size W ((W.alloc (.cells #[.int .i64 0, .int .i64 0, .string ⟨#[]⟩, .int .i64 0, .string ⟨#[]⟩] 29)).setCells W.heap.size 0 x.cells.toArray.toList) :=
  ⟨(nb_zero W).set x, below_setCells (Below.refl _ _) _ (Nat.le_refl _) _ _ _ ((Below.refl _ _).alloc (Nat.le_refl _) _)⟩

/-! rows of nodes -/
def ncells (l : List Nd) : List Value := l.flatMap Nd.cells
set_option maxRecDepth 100000 in
theorem ncells_app (a b : List Nd) : ncells (a ++ b) = ncells a ++ ncells b := by unfold ncells; rw [List.flatMap_append]
set_option maxRecDepth 100000 in
theorem ncells_cons (e : Nd) (l : List Nd) : ncells (e :: l) = e.cells ++ ncells l := rfl
set_option maxRecDepth 100000 in
theorem ncells_length (l : List Nd) : (ncells l).length = l.length * 5 := by
  induction l with
  | nil => rfl
  | cons a l ih => rw [ncells_cons, List.length_append, ih, List.length_cons]; show 5 + _ = _; omega
set_option maxRecDepth 100000 in
theorem ncells_ones (l : List Nd) : ∀ u ∈ ncells l, u.oneCell' = true := by
  intro u hu
  obtain ⟨e, _, he⟩ := List.mem_flatMap.1 hu
  exact n_one e u he
set_option maxRecDepth 100000 in
theorem ncells_at {ts : List Nd} {i : Nat} (h : i < ts.length) (j : Nat) (hj : j < 5) : (ncells ts)[i * 5 + j]? = (ts[i]).cells[j]? := by
  induction ts generalizing i with
  | nil => simp at h
  | cons t ts ih =>
    rw [ncells_cons]
    cases i with
    | zero => rw [Nat.zero_mul, Nat.zero_add, List.getElem?_append_left (by show j < 5; exact hj)]; rfl
    | succ i =>
      rw [List.getElem?_append_right (by show 5 ≤ _; omega)]
      rw [show (i + 1) * 5 + j - t.cells.length = i * 5 + j by show (i + 1) * 5 + j - 5 = _; omega]
      exact ih (by simpa using h)

/-- Numbers of kids that an int can be. -/
def Fit (ts : List Nd) : Prop := ∀ x ∈ ts, x.kids ≤ 9223372036854775807
/-- A slice that holds these nodes. -/
def Nds (W : World) (v : Value) (ts : List Nd) : Prop := ∃ p c, v = .slice p ts.length c ∧ ts.length ≤ c ∧ Fit ts ∧ (ts = [] ∨ ∃ g o, p = some ⟨g, o, none⟩ ∧ g < W.heap.size ∧ W.rangeAt g o (ncells ts))

set_option maxRecDepth 100000 in
theorem Nds.later {W W' : World} {v : Value} {ts : List Nd} (h : Nds W v ts) (hb : Below W.heap.size W W') : Nds W' v ts := by
  obtain ⟨p, c, rfl, hc, hf, h | ⟨g, o, rfl, hg, hr⟩⟩ := h
  · exact ⟨p, c, rfl, hc, hf, .inl h⟩
  · exact ⟨_, c, rfl, hc, hf, .inr ⟨g, o, rfl, Nat.lt_of_lt_of_le hg hb.size, rangeAt_block hr (hb.block g hg)⟩⟩

set_option maxRecDepth 100000 in
/-- What lies at a place. -/
theorem Nds.node {W : World} {p : Option Addr} {m c : Nat} {ts : List Nd} (h : Nds W (.slice p m c) ts) (i : Nat) (hi : i < ts.length) :
    ∃ g o, p = some ⟨g, o, none⟩ ∧ g < W.heap.size ∧ W.cell? ⟨g, o + i * 5, none⟩ = some (.int .i64 ts[i].kind) ∧ W.cell? ⟨g, o + i * 5 + 1, none⟩ = some (.int .i64 ts[i].kids) ∧ W.cell? ⟨g, o + i * 5 + 2, none⟩ = some (.string (strOf ts[i].name)) ∧ W.cell? ⟨g, o + i * 5 + 3, none⟩ = some (.int .i64 ts[i].n) ∧ W.cell? ⟨g, o + i * 5 + 4, none⟩ = some (.string (strOf ts[i].text)) ∧ W.rangeAt g (o + i * 5) (ts[i]).cells := by
  obtain ⟨p', c', e, hc, hfit, h0 | ⟨g, o, hp, hg, hr⟩⟩ := h
  · subst h0; simp at hi
  · cases e
    have q : ∀ j (hj : j < 5) u, (ts[i]).cells[j]? = some u → W.cell? ⟨g, o + i * 5 + j, none⟩ = some u := fun j hj u hu => by
      have := hr (i * 5 + j) u (by rw [ncells_at hi j hj]; exact hu)
      rwa [← Nat.add_assoc] at this
    refine ⟨g, o, hp, hg, q 0 (by decide) _ rfl, q 1 (by decide) _ rfl, q 2 (by decide) _ rfl, q 3 (by decide) _ rfl, q 4 (by decide) _ rfl, fun j u hu => ?_⟩
    exact q j (by have := (List.getElem?_eq_some_iff.1 hu).1; exact this) u hu

set_option maxRecDepth 100000 in
theorem strOf_self' (s : ByteArray) : strOf s.data.toList = s := by unfold strOf; simp

section
open Go.ChangeShapes Go.WideShapes Go.Deep
set_option maxRecDepth 100000 in
theorem Nds.fit {W : World} {v : Value} {ts : List Nd} (h : Nds W v ts) : Fit ts := by obtain ⟨_, _, _, _, hf, _⟩ := h; exact hf

set_option maxRecDepth 100000 in
theorem nd_one : ∃ fs, Tryz.prog.underlying 29 = some (.struct fs) ∧ fs.size = 5 ∧ oneCellFields Tryz.prog fs = true ∧ Tryz.prog.cellsOf 29 = 5 ∧ (fs.map (·.type)) = #[3, 3, 9, 2, 9] :=
  ⟨_, Tryz.underlying29, rfl, by kernel_rfl, by kernel_rfl, by simp⟩


set_option maxRecDepth 100000 in
/-- One node, as it was read. -/
theorem open_nd {H : Type} {enc : TypeId × Value → H} {w : World} {n : Nat} {cs : List Value} {x : DataW H × List MemPlace}
    (h : DataW.trod enc Tryz.prog w 0 (fun _ => true) true n 29 cs = some x) : ∃ o : Nd, cs = o.cells ∧ o.kids ≤ 9223372036854775807 := by
  obtain ⟨fs, hs, hsz, hone, hC, hty⟩ := nd_one
  obtain ⟨xs, m, _, _, hlen, hxl, hf⟩ := DataW.trod_struct hs h
  rw [hC] at hlen
  rw [hsz] at hxl
  have key : ∀ (i : Nat) (t : TypeId) (v : Value), (fs.map (·.type))[i]? = some t → cs[i]? = some v → i < 5 → ∃ y, DataW.trod enc Tryz.prog w 0 (fun _ => true) true m t [v] = some y := by
    intro i t v ht hv hi
    have hfi : fs[i]? = some (fs[i]'(by omega)) := Array.getElem?_eq_getElem (by omega)
    have e := hf i _ hfi
    obtain ⟨e1, e2⟩ := hone_of hone i _ hfi
    rw [Array.getElem?_map, hfi] at ht
    simp only [Option.map_some, Option.some.injEq] at ht
    have hil : i < cs.length := by omega
    have hd : (cs.drop i).take 1 = [v] := by
      rw [List.drop_eq_getElem_cons hil]
      rw [List.getElem?_eq_getElem hil] at hv
      simp only [Option.some.injEq] at hv
      rw [hv]; rfl
    rw [e1, e2, hd, ht, List.getElem?_eq_getElem (by omega)] at e
    exact ⟨_, e⟩
  rw [hty] at key
  match cs, hlen with
  | [c0, c1, c2, c3, c4], _ =>
    obtain ⟨y0, h0⟩ := key 0 _ c0 rfl rfl (by decide)
    obtain ⟨y1, h1⟩ := key 1 _ c1 rfl rfl (by decide)
    obtain ⟨y2, h2⟩ := key 2 _ c2 rfl rfl (by decide)
    obtain ⟨y3, h3⟩ := key 3 _ c3 rfl rfl (by decide)
    obtain ⟨y4, h4⟩ := key 4 _ c4 rfl rfl (by decide)
    obtain ⟨n0, e0, _, w0⟩ := DataW.trod_int Tryz.underlying3 h0
    obtain ⟨n1, e1, _, w1⟩ := DataW.trod_int Tryz.underlying3 h1
    obtain ⟨s, e2, _, w2⟩ := DataW.trod_string Tryz.underlying9 h2
    obtain ⟨n3, e3, _, w3⟩ := DataW.trod_int Tryz.underlying2 h3
    obtain ⟨s', e4, _, w4⟩ := DataW.trod_string Tryz.underlying9 h4
    cases e0; cases e1; cases e2; cases e3; cases e4
    refine ⟨⟨n0, n1, s.data.toList, n3, s'.data.toList⟩, ?_, by have := w1; simp [Lit.wf] at this; show n1 ≤ _; omega⟩
    unfold Nd.cells
    rw [strOf_self', strOf_self']

set_option maxRecDepth 100000 in
theorem gather (w : World) (b off : Nat) : ∀ n, (∀ j, j < n → ∃ o : Nd, w.rangeAt b (off + j * 5) o.cells ∧ o.kids ≤ 9223372036854775807) → ∃ ts : List Nd, ts.length = n ∧ Fit ts ∧ w.rangeAt b off (ncells ts)
  | 0, _ => ⟨[], rfl, (fun _ h => by cases h), fun j v hv => by simp [ncells] at hv⟩
  | n + 1, h => by
    obtain ⟨ts, hl, hf, hr⟩ := gather w b off n (fun j hj => h j (by omega))
    obtain ⟨o, ho, hof⟩ := h n (Nat.lt_succ_self n)
    refine ⟨ts ++ [o], by rw [List.length_append, hl]; rfl, (fun x hx => by rcases List.mem_append.1 hx with h | h; exact hf x h; rw [List.mem_singleton.1 h]; exact hof), fun j v hv => ?_⟩
    rw [ncells_app] at hv
    by_cases hj : j < (ncells ts).length
    · rw [List.getElem?_append_left hj] at hv
      exact hr j v hv
    · rw [List.getElem?_append_right (by omega)] at hv
      have := ho (j - (ncells ts).length) v (by simpa [ncells] using hv)
      rw [ncells_length, hl] at this hj
      rwa [show off + n * 5 + (j - n * 5) = off + j by omega] at this

set_option maxRecDepth 100000 in
/-- A slice of nodes, as it was read. -/
theorem open_nds {H : Type} {enc : TypeId × Value → H} {w : World} {b0 : Nat} {v : Value} {d : DataW H} {p : List MemPlace}
    (hv : Value.okWide Tryz.prog w .any b0 23 v) (h : DataW.Trod enc Tryz.prog w 0 (fun _ => true) true 23 v d p) : ∃ ts, Nds w v ts := by
  have hlt : ∀ x ∈ p, x.block < w.heap.size := by obtain ⟨n, hn⟩ := h; exact DataW.trod_lt n _ _ _ hn
  obtain ⟨a0, len, cap, rfl⟩ := WideShapes.okWide_slice Tryz.underlying23 hv
  obtain ⟨fuel, hf⟩ := h
  obtain ⟨fs, hs, hsz, hone, hC, hty⟩ := nd_one
  rcases open_slice Tryz.underlying23 hf with ⟨hcs, hx⟩ | ⟨a, len', cap', m, n, D, Pl, hcs, _, hl, hmx, hm, hx, hi⟩
  · simp [Value.cells] at hcs
    obtain ⟨rfl, rfl, rfl⟩ := hcs
    exact ⟨[], _, _, rfl, Nat.zero_le _, (fun _ h => by cases h), .inl rfl⟩
  · simp [Value.cells] at hcs
    obtain ⟨rfl, rfl, rfl⟩ := hcs
    simp only [Prod.mk.injEq] at hx
    simp only [if_true] at hm
    by_cases hl0 : len = 0
    · subst hl0
      exact ⟨[], _, _, rfl, Nat.zero_le _, (fun _ h => by cases h), .inl rfl⟩
    · rw [hC] at hx hi
      obtain ⟨b, off, spot⟩ := a
      obtain ⟨cs0, hc0, _⟩ := hi 0 (by omega)
      obtain ⟨_, hlen0, hat0⟩ := World.cells?_some hc0
      have hspot : spot = none := by
        have h0 := hat0 0 (by decide)
        rw [List.getElem?_eq_getElem (by omega)] at h0
        simpa [Addr.add] using World.cell?_spot h0
      subst hspot
      have hbW : b < w.heap.size := hlt (.cell b off) (by rw [hx.2]; exact List.mem_append_left _ (MemPlace.mem_row.2 ⟨0, by omega, by simp⟩))
      obtain ⟨ts, hlen, hfit, hr⟩ := gather w b off len (fun j hj => by
        obtain ⟨cs, hc, ht⟩ := hi j (by omega)
        obtain ⟨o, rfl, hof⟩ := open_nd ht
        obtain ⟨_, hlen, hat⟩ := World.cells?_some hc
        refine ⟨o, fun q u hu => ?_, hof⟩
        have hq : q < 5 := by have := (List.getElem?_eq_some_iff.1 hu).1; omega
        have := hat q hq
        rw [hu] at this
        rw [WideShapes.add_plain, WideShapes.add_plain] at this
        exact this)
      subst hlen
      exact ⟨ts, _, _, rfl, hl, hfit, .inr ⟨b, off, rfl, hbW, hr⟩⟩

end

/-! parts of a slice of nodes -/
set_option maxRecDepth 100000 in
theorem nd_size (W : World) : (sizeOf (Tryz.prog.elem 23)).run Tryz.prog W = .ok 5 W := by kernel_rfl

/-- The numbers of kids. -/
def kidsOf (ts : List Nd) : List Int := ts.map (·.kids)
set_option maxRecDepth 100000 in
theorem kidsOf_len (ts : List Nd) : (kidsOf ts).length = ts.length := by simp [kidsOf]
set_option maxRecDepth 100000 in
theorem kidsOf_at {ts : List Nd} {i : Nat} (h : i < ts.length) : (kidsOf ts)[i]? = some ts[i].kids := by simp [kidsOf, h]
set_option maxRecDepth 100000 in
theorem kidsOf_part (ts : List Nd) (i n : Nat) : kidsOf ((ts.drop i).take n) = part (kidsOf ts) i n := by simp [kidsOf, part, List.map_take, List.map_drop]

end Go.Proofs.YtemlceicmpcboaaGreatDoor.Tr
namespace Go.Proofs.YtemlceicmpcboaaGreatDoor.Pa
open Lx Tr

def nd (k : Int) : Nd := ⟨k, 0, [], 0, []⟩
/-- A node and its kids' trees. -/
def join (x : Nd) (ks : List (List Nd)) : List Nd := { x with kids := (ks.length : Int) } :: ks.flatten

/-- What is still to be read, or to be built. -/
inductive Sy where
  | mark (s : List UInt8)
  | e (n : Nat)
  | row (n : Nat)
  | post
  | prim
  | lF (par : Bool) (x : Nd) (m : Nat)
  | lN (par : Bool) (x : Nd) (m : Nat)
  | lC (par : Bool) (x : Nd) (m : Nat)
  | par
  | outer (a : List UInt8)
  | outN (a : List UInt8)
  | fn (x : Nd)
  | blk
  | sts (m : Nat)
  | stmt
  | letN
  | els
  | asg
  | mk (x : Nd) (m : Nat)
  | mod
  | modN
  | modI (a : List UInt8)
  | uses (x : Nd) (m : Nat)
  | useN
  | useM (a : List UInt8)
  | useI (a b : List UInt8)
  | funs (x : Nd) (m : Nat)
  | funN

section
variable (L : List Tk)
/-- The kind of the next token; 0 at the end. -/
def kd (i : Nat) : Int := match L[i]? with | some t => t.kind | none => 0
/-- The text of the next token if that is a key or a mark. -/
def sg (i : Nat) : List UInt8 := match L[i]? with | some t => if t.kind = 5 ∨ t.kind = 4 then t.text else [] | none => []
/-- Its text and its number. -/
def tx (i : Nat) : List UInt8 := match L[i]? with | some t => t.text | none => []
def nm (i : Nat) : Int := match L[i]? with | some t => t.n | none => 0

/-- The operations of a level. -/
def level : Nat → List (List UInt8)
  | 0 => [[111, 114]]
  | 1 => [[97, 110, 100]]
  | 2 => [[61, 61], [33, 61], [60], [60, 61]]
  | 3 => [[43], [45], [46, 46]]
  | _ => [[42], [47], [37]]

abbrev Rs := Option (List Sy × List (List Nd) × Nat)

/-- A token of a kind. -/
def need (k : Int) (V : List (List Nd)) (i : Nat) (A : List Sy) : Rs := if kd L i = k then some (A, V, i + 1) else none

/-- What a statement begins with. -/
def stmtA (s : List UInt8) : Option (List Sy) :=
  if s = [108, 101, 116] then some [.letN]
  else if s = [105, 102] then some [.e 0, .blk, .els]
  else if s = [119, 104, 105, 108, 101] then some [.e 0, .blk, .mk (nd 10) 2]
  else if s = [98, 114, 101, 97, 107] then some [.mark [59], .mk (nd 11) 0]
  else if s = [99, 111, 110, 116, 105, 110, 117, 101] then some [.mark [59], .mk (nd 12) 0]
  else if s = [121, 105, 101, 108, 100] then some [.mark [59], .mk (nd 16) 0]
  else if s = [114, 101, 116, 117, 114, 110] then some [.e 0, .mark [59], .mk (nd 13) 1]
  else if s = [112, 117, 116] then some [.e 0, .mark [59], .mk (nd 14) 1]
  else if s = [101, 109, 105, 116] then some [.e 0, .mark [59], .mk (nd 15) 1]
  else none

/-- What a primary expression begins with, if that is a key or a mark. -/
def primA (s : List UInt8) : Option (List Sy) :=
  if s = [110, 105, 108] then some [.mk (nd 18) 0]
  else if s = [115, 116, 97, 116, 101] then some [.mk (nd 29) 0]
  else if s = [123] then some [.mark [125], .mk (nd 25) 0]
  else if s = [102, 110] then some [.fn (nd 24)]
  else if s = [40] then some [.e 0, .mark [41]]
  else none

/-- Where the first kid's tree ends. -/
def firstZ (b : List Nd) : Nat := (endW 1 (kidsOf b)).getD 0

/-- One step: what comes in the place of the front, of the trees, and where it stands then; none: the token there can't stand. -/
def one (a : Sy) (V : List (List Nd)) (i : Nat) : Rs := match a with
  | .mark s => if sg L i = s then some ([], V, i + 1) else none
  | .e n => if n < 5 then some ([.e (n + 1), .row n], V, i)
      else if sg L i = [115, 112, 97, 119, 110] then some ([.e 5, .mk (nd 30) 1], V, i + 1)
      else if sg L i ∈ [[45], [110, 111, 116], [108, 101, 110]] then some ([.e 5, .mk { nd 28 with text := sg L i } 1], V, i + 1)
      else some ([.prim, .post], V, i)
  | .row n => if sg L i ∈ level n then some (.e (n + 1) :: .mk { nd 27 with text := sg L i } 2 :: (if n = 2 then [] else [.row n]), V, i + 1) else some ([], V, i)
  | .post => if sg L i = [40] then some ([.lF false (nd 22) 1, .post], V, i + 1)
      else if sg L i = [91] then some ([.e 0, .mark [93], .mk (nd 26) 2, .post], V, i + 1)
      else some ([], V, i)
  | .prim => if kd L i = 2 then some ([.mk { nd 19 with n := nm L i } 0], V, i + 1)
      else if kd L i = 3 then some ([.mk { nd 20 with text := tx L i } 0], V, i + 1)
      else if kd L i = 1 then some ([.outer (tx L i)], V, i + 1)
      else (primA (sg L i)).map fun A => (A, V, i + 1)
  | .outer a => if sg L i = [46] then some ([.outN a], V, i + 1) else some ([.mk { nd 21 with name := a } 0], V, i)
  | .outN a => need L 1 V i [.mark [40], .lF false { nd 23 with name := a, text := tx L i } 0]
  | .lF p x m => if sg L i = [41] then some ([.lC p x m], V, i + 1) else some ([if p then .par else .e 0, .lN p x (m + 1)], V, i)
  | .lN p x m => if sg L i = [44] then some ([if p then .par else .e 0, .lN p x (m + 1)], V, i + 1)
      else if sg L i = [41] then some ([.lC p x m], V, i + 1) else none
  | .lC p x m => some (if p then [.blk, .mk x (m + 1)] else [.mk x m], V, i)
  | .par => need L 1 V i [.mk { nd 4 with name := tx L i } 0]
  | .fn x => some ([.mark [40], .lF true x 0], V, i)
  | .blk => some ([.mark [123], .sts 0], V, i)
  | .sts m => if sg L i = [125] then some ([.mk (nd 5) m], V, i + 1) else some ([.stmt, .sts (m + 1)], V, i)
  | .stmt => match stmtA (sg L i) with
      | some A => some (A, V, i + 1)
      | none => some ([.e 0, .asg], V, i)
  | .letN => need L 1 V i [.mark [61], .e 0, .mark [59], .mk { nd 6 with name := tx L i } 1]
  | .els => if sg L i = [101, 108, 115, 101] then some ([.blk, .mk (nd 9) 3], V, i + 1) else some ([.mk (nd 9) 2], V, i)
  | .asg => if sg L i = [61] then match V with
        | (x :: b) :: V' =>
          if x.kind = 21 then some ([.e 0, .mark [59], .mk { nd 7 with name := x.name } 1], V', i + 1)
          else if x.kind = 26 then some ([.e 0, .mark [59], .mk (nd 8) 3], b.drop (firstZ b) :: b.take (firstZ b) :: V', i + 1)
          else none
        | _ => none
      else some ([.mark [59], .mk (nd 17) 1], V, i)
  | .mk x m => if m ≤ V.length then some ([], join x (V.take m).reverse :: V.drop m, i) else none
  | .mod => some ([.mark [109, 111, 100, 117, 108, 101], .modN], V, i)
  | .modN => need L 1 V i [.modI (tx L i)]
  | .modI a => need L 2 V i [.mark [59], .uses { nd 1 with name := a, n := nm L i } 0]
  | .uses x m => if sg L i = [117, 115, 101] then some ([.useN, .uses x (m + 1)], V, i + 1) else some ([.funs x m], V, i)
  | .useN => need L 1 V i [.mark [46], .useM (tx L i)]
  | .useM a => need L 1 V i [.mark [47], .useI a (tx L i)]
  | .useI a b => need L 2 V i [.mark [59], .mk { nd 2 with name := a, text := b, n := nm L i } 0]
  | .funs x m => if sg L i = [102, 110] then some ([.funN, .funs x (m + 1)], V, i + 1) else some ([.mk x m], V, i)
  | .funN => need L 1 V i [.fn { nd 3 with name := tx L i }]

/-- What is at the front, the trees that were read, and where it stands; or where it was that no token can stand; or the end. -/
inductive Cfg where
  | run (A : List Sy) (V : List (List Nd)) (i : Nat)
  | bad (i : Nat)
  | fin (V : List (List Nd))

def step : Cfg → Cfg
  | .run [] V i => if i = L.length then .fin V else .bad i
  | .run (a :: A) V i => match one L a V i with
    | some (B, V', j) => .run (B ++ A) V' j
    | none => .bad i
  | c => c

def iter : Nat → Cfg → Cfg
  | 0, c => c
  | n + 1, c => iter n (step L c)

def To (c d : Cfg) : Prop := ∃ n, iter L n c = d
end

variable {L : List Tk}
theorem iter_add : ∀ (m n : Nat) (c : Cfg), iter L (m + n) c = iter L n (iter L m c)
  | 0, n, c => by rw [Nat.zero_add]; rfl
  | m + 1, n, c => by rw [show m + 1 + n = (m + n) + 1 by omega]; exact iter_add m n _
theorem To.refl (c : Cfg) : To L c c := ⟨0, rfl⟩
theorem To.trans {c d e : Cfg} (h : To L c d) (k : To L d e) : To L c e := by
  obtain ⟨m, rfl⟩ := h
  obtain ⟨n, rfl⟩ := k
  exact ⟨m + n, iter_add m n c⟩
theorem To.head {c d : Cfg} (h : To L (step L c) d) : To L c d := by
  obtain ⟨n, h⟩ := h
  exact ⟨n + 1, h⟩
theorem iter_stop {c : Cfg} (h : step L c = c) : ∀ n, iter L n c = c
  | 0 => rfl
  | n + 1 => by show iter L n (Pa.step L c) = c; rw [h]; exact iter_stop h n
theorem To.one_end {c d e : Cfg} (h : To L c d) (k : To L c e) (hd : step L d = d) (he : step L e = e) : d = e := by
  obtain ⟨m, h⟩ := h
  obtain ⟨n, k⟩ := k
  have h1 := iter_add (L := L) m n c
  have h2 := iter_add (L := L) n m c
  rw [h, iter_stop hd] at h1
  rw [k, iter_stop he, Nat.add_comm] at h2
  exact h1.symm.trans h2
theorem bad_stop (i : Nat) : step L (.bad i) = .bad i := rfl
theorem fin_stop (V : List (List Nd)) : step L (.fin V) = .fin V := rfl

theorem to_some {a : Sy} {A B : List Sy} {V V' : List (List Nd)} {i j : Nat} (h : one L a V i = some (B, V', j)) : To L (.run (a :: A) V i) (.run (B ++ A) V' j) :=
  To.head ⟨0, by show Pa.step L _ = _; simp only [Pa.step, h]⟩
theorem to_none {a : Sy} {A : List Sy} {V : List (List Nd)} {i : Nat} (h : one L a V i = none) : To L (.run (a :: A) V i) (.bad i) :=
  To.head ⟨0, by show Pa.step L _ = _; simp only [Pa.step, h]⟩

/-- Where a reader stands, or where it could not go on. -/
inductive St where
  | ok (i : Nat)
  | bad (k : Nat)
deriving DecidableEq

/-- From the front A, over the trees us, to the front B, over the trees ts (the last one on top). -/
def Leads (L : List Tk) (A : List Sy) (us : List (List Nd)) (s : St) (B : List Sy) (ts : List (List Nd)) (s' : St) : Prop := match s, s' with
  | .ok i, .ok j => ∀ K V, To L (.run (A ++ K) (us.reverse ++ V) i) (.run (B ++ K) (ts.reverse ++ V) j)
  | .ok i, .bad k => ∀ K V, To L (.run (A ++ K) (us.reverse ++ V) i) (.bad k)
  | .bad k, .bad k' => k = k'
  | .bad _, .ok _ => False

theorem Leads.refl (A : List Sy) (us : List (List Nd)) (s : St) : Leads L A us s A us s := by
  cases s with
  | ok i => exact fun _ _ => To.refl _
  | bad k => exact rfl
/-- Past a failure it is the same, whatever it was to read. -/
theorem Leads.any (A B : List Sy) (us ts : List (List Nd)) (k : Nat) : Leads L A us (.bad k) B ts (.bad k) := rfl
theorem Leads.any' {A B : List Sy} {us ts : List (List Nd)} {s : St} {k : Nat} (B' : List Sy) (ts' : List (List Nd)) (h : Leads L A us s B ts (.bad k)) : Leads L A us s B' ts' (.bad k) := by
  cases s with
  | ok i => exact h
  | bad k' => exact h
theorem Leads.trans {A B C : List Sy} {us ts qs : List (List Nd)} {s s1 s2 : St} (h : Leads L A us s B ts s1) (k : Leads L B ts s1 C qs s2) : Leads L A us s C qs s2 := by
  cases s with
  | ok i =>
    cases s1 with
    | ok j =>
      cases s2 with
      | ok m => exact fun K V => (h K V).trans (k K V)
      | bad m => exact fun K V => (h K V).trans (k K V)
    | bad j =>
      cases s2 with
      | ok m => exact absurd k id
      | bad m => cases (show j = m from k); exact fun K V => h K V
  | bad i =>
    cases s1 with
    | ok j => exact absurd h id
    | bad j =>
      cases s2 with
      | ok m => exact absurd k id
      | bad m => exact (show i = j from h).trans k
/-- With more behind the front, and more trees below. -/
theorem Leads.over {A B : List Sy} {us ts : List (List Nd)} {s s' : St} (h : Leads L A us s B ts s') (C : List Sy) (qs : List (List Nd)) : Leads L (A ++ C) (qs ++ us) s (B ++ C) (qs ++ ts) s' := by
  cases s with
  | ok i =>
    cases s' with
    | ok j => intro K V; have := h (C ++ K) (qs.reverse ++ V); simpa [List.append_assoc] using this
    | bad j => intro K V; have := h (C ++ K) (qs.reverse ++ V); simpa [List.append_assoc] using this
  | bad i =>
    cases s' with
    | ok j => exact h
    | bad j => exact h
/-- A step. -/
theorem Leads.yes {a : Sy} {B : List Sy} {us ts : List (List Nd)} {i j : Nat} (h : ∀ V, one L a (us.reverse ++ V) i = some (B, ts.reverse ++ V, j)) : Leads L [a] us (.ok i) B ts (.ok j) :=
  fun K V => to_some (A := K) (h V)
theorem Leads.no {a : Sy} {B : List Sy} {us ts : List (List Nd)} {i : Nat} (h : ∀ V, one L a (us.reverse ++ V) i = none) : Leads L [a] us (.ok i) B ts (.bad i) :=
  fun K V => to_none (A := K) (h V)

/-- One behind the other. -/
theorem Leads.seq {A B C : List Sy} {us ts qs : List (List Nd)} {s s1 s2 : St} (h : Leads L A [] s [] ts s1) (k : Leads L B (us ++ ts) s1 C qs s2) : Leads L (A ++ B) us s C qs s2 := by
  have h1 := h.over B us
  rw [List.append_nil, List.nil_append] at h1
  exact h1.trans k

end Go.Proofs.YtemlceicmpcboaaGreatDoor.Pa
