/- Trees as lists of numbers of kids: where a tree ends, its kids, how deep it is; by definition, and plain facts. No condition but those that each states. -/
import Derived.Lib.DecodeN
namespace Go.Proofs.Ytcfgngaabledpaa.Tr

/-- How many entries so many trees take at a list's beginning. -/
def endW : Nat → List Int → Option Nat
  | 0, _ => some 0
  | _ + 1, [] => none
  | w + 1, k :: r => if k < 0 then none else (endW (w + k.toNat) r).map (· + 1)

theorem endW_zero (l : List Int) : endW 0 l = some 0 := by cases l <;> rfl
theorem endW_cons (w : Nat) (k : Int) (r : List Int) : endW (w + 1) (k :: r) = if k < 0 then none else (endW (w + k.toNat) r).map (· + 1) := rfl

theorem endW_le : ∀ (l : List Int) (w n : Nat), endW w l = some n → w ≤ n ∧ n ≤ l.length
  | l, 0, n, h => by rw [endW_zero] at h; cases h; simp
  | [], w + 1, n, h => by cases h
  | k :: r, w + 1, n, h => by
    rw [endW_cons] at h
    split at h
    · cases h
    · cases hr : endW (w + k.toNat) r with
      | none => rw [hr] at h; cases h
      | some m =>
        rw [hr] at h
        cases h
        have := endW_le r _ _ hr
        simp only [List.length_cons]
        omega

theorem endW_add : ∀ (l : List Int) (a b : Nat), endW (a + b) l = (endW a l).bind fun n => (endW b (l.drop n)).map (n + ·)
  | l, 0, b => by
    rw [endW_zero, Nat.zero_add]
    show _ = (endW b (l.drop 0)).map _
    rw [List.drop_zero]
    cases endW b l <;> simp
  | [], a + 1, b => by
    rw [show a + 1 + b = (a + b) + 1 by omega]; rfl
  | k :: r, a + 1, b => by
    rw [show a + 1 + b = (a + b) + 1 by omega, endW_cons, endW_cons]
    split
    · rfl
    · rw [show a + b + k.toNat = a + k.toNat + b by omega, endW_add r]
      cases endW (a + k.toNat) r with
      | none => rfl
      | some m =>
        show ((endW b (r.drop m)).map (m + ·)).map (· + 1) = (endW b ((k :: r).drop (m + 1))).map (m + 1 + ·)
        rw [List.drop_succ_cons]
        cases endW b (r.drop m) with
        | none => rfl
        | some q => simp; omega

theorem endW_app : ∀ (l t : List Int) (w n : Nat), endW w l = some n → endW w (l ++ t) = some n
  | l, t, 0, n, h => by rw [endW_zero] at h ⊢; exact h
  | [], t, w + 1, n, h => by cases h
  | k :: r, t, w + 1, n, h => by
    rw [endW_cons] at h
    rw [List.cons_append, endW_cons]
    split at h
    · cases h
    · rename_i hk
      rw [if_neg hk]
      cases hr : endW (w + k.toNat) r with
      | none => rw [hr] at h; cases h
      | some m => rw [hr] at h; rw [endW_app r t _ _ hr]; exact h

theorem endW_take {l : List Int} {w n : Nat} (h : endW w l = some n) : endW w (l.take n) = some n := by
  revert n
  induction l generalizing w with
  | nil => intro n h; cases w with
    | zero => rw [endW_zero] at h ⊢; exact h
    | succ w => cases h
  | cons k r ih =>
    intro n h
    cases w with
    | zero => rw [endW_zero] at h ⊢; exact h
    | succ w =>
      rw [endW_cons] at h
      split at h
      · cases h
      · rename_i hk
        cases hr : endW (w + k.toNat) r with
        | none => rw [hr] at h; cases h
        | some m =>
          rw [hr] at h
          cases h
          rw [List.take_succ_cons, endW_cons, if_neg hk, ih hr]; rfl

/-- Of a list that a tree is the whole of, no other beginning is whole. -/
theorem endW_cut {l : List Int} {w n m : Nat} (h : endW w l = some n) (hm : m < n) (hml : m ≤ l.length) : endW w (l.take m) = none := by
  cases hc : endW w (l.take m) with
  | none => rfl
  | some q =>
    have h1 := endW_app _ (l.drop m) _ _ hc
    rw [List.take_append_drop, h] at h1
    cases h1
    have := (endW_le _ _ _ hc).2
    rw [List.length_take] at this
    omega

/-- Where the tree at a place ends, or -1. -/
def endI (ks : List Int) (i : Int) : Int := if i < 0 then -1 else match endW 1 (ks.drop i.toNat) with
  | some n => i + n
  | none => -1

theorem endI_none {ks : List Int} {i : Nat} (h : endW 1 (ks.drop i) = none) : endI ks (i : Int) = -1 := by
  unfold endI; rw [if_neg (by omega), Int.toNat_natCast, h]
theorem endI_some {ks : List Int} {i n : Nat} (h : endW 1 (ks.drop i) = some n) : endI ks (i : Int) = (i : Int) + n := by
  unfold endI; rw [if_neg (by omega), Int.toNat_natCast, h]
theorem endI_neg {ks : List Int} {i : Int} (h : i < 0) : endI ks i = -1 := by unfold endI; rw [if_pos h]
theorem endI_cases (ks : List Int) (i : Int) : endI ks i = -1 ∨ ∃ (k n : Nat), i = (k : Int) ∧ endW 1 (ks.drop k) = some n ∧ 1 ≤ n ∧ k + n ≤ ks.length ∧ endI ks i = (k : Int) + n := by
  by_cases h : i < 0
  · exact .inl (endI_neg h)
  · obtain ⟨k, rfl⟩ : ∃ k : Nat, i = (k : Int) := ⟨i.toNat, by omega⟩
    cases hn : endW 1 (ks.drop k) with
    | none => exact .inl (endI_none hn)
    | some n =>
      have := endW_le _ _ _ hn
      rw [List.length_drop] at this
      exact .inr ⟨k, n, rfl, hn, by omega, by omega, endI_some hn⟩

/-- What is left of a tree, behind its first node. -/
theorem endW_node {ks : List Int} {i n : Nat} (h : endW 1 (ks.drop i) = some n) : ∃ k, ks[i]? = some k ∧ 0 ≤ k ∧ endW k.toNat (ks.drop (i + 1)) = some (n - 1) ∧ 1 ≤ n := by
  have hlt : i < ks.length := by have := endW_le _ _ _ h; rw [List.length_drop] at this; omega
  rw [List.drop_eq_getElem_cons hlt, show (1 : Nat) = 0 + 1 from rfl, endW_cons] at h
  split at h
  · cases h
  · rename_i hk
    rw [Nat.zero_add] at h
    cases hr : endW (ks[i]).toNat (ks.drop (i + 1)) with
    | none => rw [hr] at h; cases h
    | some m =>
      rw [hr] at h
      obtain rfl : m + 1 = n := Option.some.inj h
      exact ⟨_, List.getElem?_eq_getElem hlt, by omega, by rw [hr]; rfl, by omega⟩

/-- How many nodes the tree at a place has. -/
def sz (ks : List Int) (p : Nat) : Nat := (endW 1 (ks.drop p)).getD 0
/-- The place of the so-manieth tree from a place on. -/
def pos (ks : List Int) (p : Nat) : Nat → Nat
  | 0 => p
  | j + 1 => pos ks p j + sz ks (pos ks p j)
theorem pos_succ (ks : List Int) (p j : Nat) : pos ks p (j + 1) = pos ks p j + sz ks (pos ks p j) := rfl

theorem pos_at {ks : List Int} {p c n : Nat} (h : endW c (ks.drop p) = some n) : ∀ j, j ≤ c → pos ks p j ≤ p + n ∧ endW (c - j) (ks.drop (pos ks p j)) = some (p + n - pos ks p j) ∧ p + j ≤ pos ks p j
  | 0, _ => ⟨by show p ≤ _; omega, by show endW c (ks.drop p) = some (p + n - p); rw [h, Nat.add_sub_cancel_left], Nat.le_refl _⟩
  | j + 1, hj => by
    obtain ⟨h1, h2, h3⟩ := pos_at h j (by omega)
    rw [show c - j = 1 + (c - (j + 1)) by omega, endW_add] at h2
    cases hm : endW 1 (ks.drop (pos ks p j)) with
    | none => rw [hm] at h2; cases h2
    | some m =>
      rw [hm] at h2
      have hz : sz ks (pos ks p j) = m := by unfold sz; rw [hm]; rfl
      have hm1 := (endW_le _ _ _ hm).1
      rw [pos_succ, hz]
      simp only [Option.bind_some, List.drop_drop] at h2
      cases hr : endW (c - (j + 1)) (ks.drop (pos ks p j + m)) with
      | none => rw [hr] at h2; cases h2
      | some q =>
        rw [hr] at h2
        simp only [Option.map_some, Option.some.injEq] at h2
        refine ⟨by omega, by congr 1; omega, by omega⟩

/-- A kid's tree is whole. -/
theorem pos_tree {ks : List Int} {p c n : Nat} (h : endW c (ks.drop p) = some n) {j : Nat} (hj : j < c) : ∃ m, endW 1 (ks.drop (pos ks p j)) = some m ∧ 1 ≤ m ∧ pos ks p (j + 1) = pos ks p j + m ∧ pos ks p j + m ≤ p + n := by
  obtain ⟨h1, h2, h3⟩ := pos_at h j (by omega)
  obtain ⟨g1, -, -⟩ := pos_at h (j + 1) (by omega)
  rw [show c - j = 1 + (c - (j + 1)) by omega, endW_add] at h2
  cases hm : endW 1 (ks.drop (pos ks p j)) with
  | none => rw [hm] at h2; cases h2
  | some m =>
    have hz : sz ks (pos ks p j) = m := by unfold sz; rw [hm]; rfl
    rw [pos_succ, hz] at g1
    exact ⟨m, rfl, (endW_le _ _ _ hm).1, by rw [pos_succ, hz], g1⟩
theorem pos_end {ks : List Int} {p c n : Nat} (h : endW c (ks.drop p) = some n) : pos ks p c = p + n := by
  obtain ⟨h1, h2, h3⟩ := pos_at h c (Nat.le_refl _)
  rw [Nat.sub_self, endW_zero] at h2
  have := Option.some.inj h2
  omega
theorem pos_lt {ks : List Int} {p c n : Nat} (h : endW c (ks.drop p) = some n) {j : Nat} (hj : j < c) : pos ks p j < p + n := by
  obtain ⟨m, h1, h2, h3, h4⟩ := pos_tree h hj
  omega

/-- The places of the kids of the node at i. -/
def kidsL (ks : List Int) (i : Int) : List Nat := if endI ks i < 0 then [] else (List.range (ks.getD i.toNat 0).toNat).map (pos ks (i.toNat + 1))

theorem kidsL_none {ks : List Int} {i : Int} (h : endI ks i < 0) : kidsL ks i = [] := if_pos h
theorem kidsL_some {ks : List Int} {i n : Nat} {k : Int} (h : endW 1 (ks.drop i) = some n) (hk : ks[i]? = some k) : kidsL ks (i : Int) = (List.range k.toNat).map (pos ks (i + 1)) := by
  unfold kidsL
  rw [endI_some h, if_neg (by omega), Int.toNat_natCast]
  simp [hk]

/-! how deep -/
/-- Of the nodes around, what is behind a node that has all its kids. -/
def norm : List Nat → List Nat
  | [] => []
  | 0 :: o => norm o
  | (c + 1) :: o => c :: o

/-- How deep the nodes are, within nodes of which so many kids are still to come, each. -/
def depP : List Nat → Nat → List Int → Option Nat
  | o, m, [] => if o = [] then some m else none
  | o, m, k :: r => if k < 0 then none else depP (norm (k.toNat :: o)) (max m (o.length + 1)) r

theorem depP_nil (o : List Nat) (m : Nat) : depP o m [] = if o = [] then some m else none := rfl
theorem depP_cons (o : List Nat) (m : Nat) (k : Int) (r : List Int) : depP o m (k :: r) = if k < 0 then none else depP (norm (k.toNat :: o)) (max m (o.length + 1)) r := rfl

def depI (ks : List Int) : Int := match depP [] 0 ks with
  | some d => (d : Int)
  | none => -1

theorem norm_len : ∀ o : List Nat, (norm o).length ≤ o.length
  | [] => Nat.le_refl _
  | 0 :: o => by have := norm_len o; show (norm o).length ≤ o.length + 1; omega
  | (c + 1) :: o => Nat.le_refl _

/-- How many trees are still to come. -/
def tot : List Nat → Nat
  | [] => 0
  | c :: o => 1 + (c :: o).sum

theorem tot_norm : ∀ o : List Nat, tot (norm o) = o.sum
  | [] => rfl
  | 0 :: o => by show tot (norm o) = _; rw [tot_norm o]; simp
  | (c + 1) :: o => by show 1 + (c :: o).sum = _; simp; omega

theorem endW_le_none {a b : Nat} {l : List Int} (h : endW a l = none) : endW (a + b) l = none := by rw [endW_add, h]; rfl

/-- Where the depth is told each tree is whole. -/
theorem depP_some : ∀ (l : List Int) (o : List Nat) (m d : Nat), depP o m l = some d → endW (tot o) l ≠ none ∧ ∀ j, j < l.length → endW 1 (l.drop j) ≠ none
  | [], o, m, d, h => by
    rw [depP_nil] at h
    split at h
    · rename_i ho; subst ho; exact ⟨by simp [tot, endW], fun j hj => by simp at hj⟩
    · cases h
  | k :: r, o, m, d, h => by
    rw [depP_cons] at h
    split at h
    · cases h
    · rename_i hk
      obtain ⟨h1, h2⟩ := depP_some r _ _ _ h
      rw [tot_norm, List.sum_cons] at h1
      refine ⟨?_, fun j hj => ?_⟩
      · cases o with
        | nil => simp [tot, endW_zero]
        | cons c o =>
          show endW (1 + (c :: o).sum) (k :: r) ≠ none
          rw [show 1 + (c :: o).sum = (c :: o).sum + 1 by omega, endW_cons, if_neg hk, show (c :: o).sum + k.toNat = k.toNat + (c :: o).sum by omega]
          intro e
          cases hq : endW (k.toNat + (c :: o).sum) r with
          | none => exact h1 hq
          | some q => rw [hq] at e; cases e
      · cases j with
        | succ j => rw [List.drop_succ_cons]; exact h2 j (by simpa using hj)
        | zero =>
          rw [List.drop_zero, show (1 : Nat) = 0 + 1 from rfl, endW_cons, if_neg hk, Nat.zero_add]
          intro e
          cases hq : endW k.toNat r with
          | none => exact h1 (endW_le_none hq)
          | some q => rw [hq] at e; cases e

/-- Where it isn't, a tree is not whole. -/
theorem depP_none : ∀ (l : List Int) (o : List Nat) (m : Nat), depP o m l = none → endW (tot o) l = none ∨ ∃ j, j < l.length ∧ endW 1 (l.drop j) = none
  | [], o, m, h => by
    rw [depP_nil] at h
    split at h
    · cases h
    · rename_i ho
      cases o with
      | nil => exact absurd rfl ho
      | cons c o => left; show endW (1 + (c :: o).sum) [] = none; rw [Nat.add_comm]; rfl
  | k :: r, o, m, h => by
    rw [depP_cons] at h
    split at h
    · rename_i hk
      exact .inr ⟨0, by simp, by rw [List.drop_zero, show (1 : Nat) = 0 + 1 from rfl, endW_cons, if_pos hk]⟩
    · rename_i hk
      rcases depP_none r _ _ h with h1 | ⟨j, hj, h1⟩
      · rw [tot_norm, List.sum_cons, endW_add] at h1
        cases hq : endW k.toNat r with
        | none => exact .inr ⟨0, by simp, by rw [List.drop_zero, show (1 : Nat) = 0 + 1 from rfl, endW_cons, if_neg hk, Nat.zero_add, hq]; rfl⟩
        | some q =>
          rw [hq] at h1
          cases o with
          | nil => rw [List.sum_nil] at h1; simp [endW_zero] at h1
          | cons c o =>
            left
            show endW (1 + (c :: o).sum) (k :: r) = none
            rw [show 1 + (c :: o).sum = (c :: o).sum + 1 by omega, endW_cons, if_neg hk, show (c :: o).sum + k.toNat = k.toNat + (c :: o).sum by omega, endW_add, hq]
            show Option.map _ (Option.bind (some q) _) = none
            rw [h1]; rfl
      · exact .inr ⟨j + 1, by simpa using hj, by rw [List.drop_succ_cons]; exact h1⟩

/-- Trees, gone through within others. -/
theorem forest (N : Nat) : ∀ (T : List Int), T.length ≤ N →
    (endW 1 T = some T.length → ∃ d, 1 ≤ d ∧ ∀ o m r, depP o m (T ++ r) = depP (norm o) (max m (o.length + d)) r) ∧
    ∀ c, endW (c + 1) T = some T.length → ∃ d, 1 ≤ d ∧ ∀ o m r, depP (c :: o) m (T ++ r) = depP (norm o) (max m (o.length + 1 + d)) r := by
  induction N with
  | zero =>
    intro T hT
    obtain rfl : T = [] := List.eq_nil_of_length_eq_zero (by omega)
    exact ⟨fun h => (by cases h), fun c h => (by cases h)⟩
  | succ N ih =>
    intro T hT
    have tree : endW 1 T = some T.length → ∃ d, 1 ≤ d ∧ ∀ o m r, depP o m (T ++ r) = depP (norm o) (max m (o.length + d)) r := by
      intro h
      cases T with
      | nil => cases h
      | cons k F =>
        rw [show (1 : Nat) = 0 + 1 from rfl, endW_cons] at h
        split at h
        · cases h
        · rename_i hk
          rw [Nat.zero_add] at h
          cases hF : endW k.toNat F with
          | none => rw [hF] at h; cases h
          | some q =>
            rw [hF] at h
            simp at h
            subst h
            obtain ⟨c, hc⟩ : ∃ c, c = k.toNat := ⟨_, rfl⟩
            rw [← hc] at hF
            cases c with
            | zero =>
              rw [endW_zero] at hF
              obtain rfl : F = [] := List.eq_nil_of_length_eq_zero (by have := Option.some.inj hF; omega)
              refine ⟨1, Nat.le_refl _, fun o m r => ?_⟩
              rw [List.cons_append, depP_cons, if_neg hk, ← hc]; rfl
            | succ c =>
              obtain ⟨d, hd, H⟩ := (ih F (by simpa using hT)).2 c hF
              refine ⟨d + 1, by omega, fun o m r => ?_⟩
              rw [List.cons_append, depP_cons, if_neg hk, ← hc]
              show depP (c :: o) _ _ = _
              rw [H]
              congr 1
              omega
    refine ⟨tree, fun c h => ?_⟩
    cases c with
    | zero =>
      obtain ⟨d, hd, H⟩ := tree h
      refine ⟨d, hd, fun o m r => ?_⟩
      rw [H]; rfl
    | succ c =>
      have h' := h
      rw [show c + 1 + 1 = 1 + (c + 1) by omega, endW_add] at h
      cases h1 : endW 1 T with
      | none => rw [h1] at h; cases h
      | some n =>
        rw [h1] at h
        have hn := endW_le _ _ _ h1
        have e : T.take n ++ T.drop n = T := List.take_append_drop n T
        have l1 : (T.take n).length = n := by rw [List.length_take]; omega
        have l2 : (T.drop n).length = T.length - n := List.length_drop
        have hrest : endW (c + 1) (T.drop n) = some (T.drop n).length := by
          cases h2 : endW (c + 1) (T.drop n) with
          | none => rw [Option.bind_some, h2] at h; cases h
          | some q => rw [Option.bind_some, h2] at h; simp at h; rw [l2]; congr 1; omega
        have hqle := endW_le _ _ _ hrest
        have t1 := endW_take h1
        obtain ⟨d1, g1, H1⟩ := (ih (T.take n) (by rw [l1]; omega)).1 (by rw [l1]; exact t1)
        obtain ⟨d2, g2, H2⟩ := (ih (T.drop n) (by omega)).2 c hrest
        refine ⟨max d1 d2, by omega, fun o m r => ?_⟩
        conv => lhs; rw [← e, List.append_assoc, H1]
        show depP (c :: o) _ _ = _
        rw [H2]
        congr 1
        simp only [List.length_cons]
        omega

/-- A tree's depth, and what it does within others. -/
theorem tree_depth {T : List Int} (h : endW 1 T = some T.length) : ∃ d, 1 ≤ d ∧ depP [] 0 T = some d ∧ ∀ o m r, depP o m (T ++ r) = depP (norm o) (max m (o.length + d)) r := by
  obtain ⟨d, hd, H⟩ := (forest T.length T (Nat.le_refl _)).1 h
  refine ⟨d, hd, ?_, H⟩
  have := H [] 0 []
  rw [List.append_nil] at this
  rw [this]
  show depP [] _ [] = _
  rw [depP_nil, if_pos rfl]
  simp

/-- The nodes of a tree at a place. -/
def part (ks : List Int) (p n : Nat) : List Int := (ks.drop p).take n

theorem part_whole {ks : List Int} {p n : Nat} (h : endW 1 (ks.drop p) = some n) : endW 1 (part ks p n) = some (part ks p n).length := by
  have := endW_le _ _ _ h
  have e : (part ks p n).length = n := by unfold part; rw [List.length_take]; omega
  rw [e]; exact endW_take h

/-- The depth of a node's tree by those of its kids: behind j of them. -/
theorem kids_depth {ks : List Int} {i n : Nat} (h : endW 1 (ks.drop i) = some n) {k : Int} (hk : ks[i]? = some k) {d : Nat} (hd : depP [] 0 (part ks i n) = some d) :
    ∃ most : Nat → Nat, most 0 = 0 ∧ (∀ j, j < k.toNat → ∃ dj, depP [] 0 (part ks (pos ks (i + 1) j) (sz ks (pos ks (i + 1) j))) = some dj ∧ most (j + 1) = max (most j) dj) ∧ d = most k.toNat + 1 := by
  obtain ⟨k', e1, hk0, hF, hn1⟩ := endW_node h
  rw [hk] at e1
  cases e1
  obtain ⟨c, hc⟩ : ∃ c, c = k.toNat := ⟨_, rfl⟩
  rw [← hc] at hF ⊢
  have hlt : i < ks.length := by have := (List.getElem?_eq_some_iff.1 hk).1; exact this
  refine ⟨fun j => Nat.rec 0 (fun j m => max m ((depP [] 0 (part ks (pos ks (i + 1) j) (sz ks (pos ks (i + 1) j)))).getD 0)) j, rfl, ?_, ?_⟩
  · intro j hj
    obtain ⟨m, t1, t2, t3, t4⟩ := pos_tree hF hj
    have hz : sz ks (pos ks (i + 1) j) = m := by unfold sz; rw [t1]; rfl
    rw [hz]
    obtain ⟨dj, q1, q2, q3⟩ := tree_depth (part_whole t1)
    refine ⟨dj, q2, ?_⟩
    show max _ ((depP [] 0 (part ks (pos ks (i + 1) j) (sz ks (pos ks (i + 1) j)))).getD 0) = _
    rw [hz, q2]; rfl
  · generalize hmost : (fun j => Nat.rec 0 (fun j m => max m ((depP [] 0 (part ks (pos ks (i + 1) j) (sz ks (pos ks (i + 1) j)))).getD 0)) j : Nat → Nat) = most
    have m0 : most 0 = 0 := by rw [← hmost]; rfl
    have ms : ∀ j, most (j + 1) = max (most j) ((depP [] 0 (part ks (pos ks (i + 1) j) (sz ks (pos ks (i + 1) j)))).getD 0) := fun j => by rw [← hmost]
    have ep : part ks i n = k :: part ks (i + 1) (n - 1) := by
      obtain ⟨n', rfl⟩ : ∃ n', n = n' + 1 := ⟨n - 1, by omega⟩
      unfold part
      rw [List.drop_eq_getElem_cons hlt, List.take_succ_cons, Nat.add_sub_cancel]
      rw [List.getElem?_eq_getElem hlt] at hk
      rw [Option.some.inj hk]
    have key : ∀ j, j ≤ c → depP [] 0 (part ks i n) = depP (norm [c - j]) (1 + most j) (part ks (pos ks (i + 1) j) (i + n - pos ks (i + 1) j)) := by
      intro j
      induction j with
      | zero =>
        intro _
        rw [ep, depP_cons, if_neg (by omega), ← hc, m0]
        show depP (norm [c]) _ _ = depP (norm [c]) _ (part ks (i + 1) (i + n - (i + 1)))
        rw [show i + n - (i + 1) = n - 1 by omega]
        rfl
      | succ j ihj =>
        intro hj
        rw [ihj (by omega)]
        obtain ⟨m, t1, t2, t3, t4⟩ := pos_tree hF (show j < c by omega)
        have hz : sz ks (pos ks (i + 1) j) = m := by unfold sz; rw [t1]; rfl
        obtain ⟨dj, q1, q2, q3⟩ := tree_depth (part_whole t1)
        have es : part ks (pos ks (i + 1) j) (i + n - pos ks (i + 1) j) = part ks (pos ks (i + 1) j) m ++ part ks (pos ks (i + 1) (j + 1)) (i + n - pos ks (i + 1) (j + 1)) := by
          unfold part
          rw [t3, ← List.drop_drop]
          generalize ks.drop (pos ks (i + 1) j) = L
          rw [show i + n - pos ks (i + 1) j = m + (i + n - (pos ks (i + 1) j + m)) by omega, List.take_add]
        rw [es, show c - j = (c - (j + 1)) + 1 by omega]
        show depP [c - (j + 1)] _ _ = _
        rw [q3, ms, hz, q2]
        congr 1
        simp only [List.length_cons, List.length_nil, Option.getD_some]
        omega
    have := key c (Nat.le_refl _)
    rw [hd, Nat.sub_self, pos_end hF] at this
    rw [show i + n - (i + 1 + (n - 1)) = 0 by omega] at this
    rw [show part ks (i + 1 + (n - 1)) 0 = [] by unfold part; simp] at this
    have e2 : some d = some (1 + most c) := this
    have := Option.some.inj e2
    omega

end Go.Proofs.Ytcfgngaabledpaa.Tr
