/- Whether kids' kinds are as the document's kids, exprs and function ask it, as groups take them: plain facts. No condition but those that each states. -/
import Derived.Test.YtcfgngaabledpaaTrRP
namespace Go.Proofs.Ytcfgngaabledpaa.Tr
open Go.RowKit Dk Lx

/-- Whether a node has just what its row names, its kind as well. -/
def fieldsR (x : Nd) : Bool := fieldsP x && (decide (1 ≤ x.kind) && decide (x.kind ≤ 30))

/-- Kinds are parameters and a block. -/
def funR (K : List Int) : Bool := match K with
  | [] => false
  | x :: r => if r = [] then x == 5 else x == 4 && decide (r.length ≤ 8) && funR r

/-- Uses, then functions. -/
def modR (K : List Int) : Bool := match K with
  | [] => true
  | x :: r => if x = 2 then modR r else (x :: r).all (· == 3)

def kidsR (k : Int) (K : List Int) : Bool :=
  if k = 1 then modR K
  else if k = 3 ∨ k = 24 then funR K
  else if k = 5 then K.all isStmt
  else if k = 8 then K.all isExpr && decide (K.length = 3)
  else if k = 9 then (match K with
    | [a, b] => isExpr a && b == 5
    | [a, b, c] => isExpr a && b == 5 && c == 5
    | _ => false)
  else if k = 10 then (match K with
    | [a, b] => isExpr a && b == 5
    | _ => false)
  else if k = 6 ∨ k = 7 ∨ k = 13 ∨ k = 14 ∨ k = 15 ∨ k = 17 ∨ k = 28 ∨ k = 30 then K.all isExpr && decide (K.length = 1)
  else if k = 22 then K.all isExpr && decide (1 ≤ K.length) && decide (K.length ≤ 9)
  else if k = 23 then K.all isExpr && decide (K.length ≤ 8)
  else if k = 26 ∨ k = 27 then K.all isExpr && decide (K.length = 2)
  else decide (K.length = 0)

/-- One group alone takes all: so many of a kind. -/
theorem cntG_full (pr : Int → Bool) : ∀ (h : Nat) (K : List Int), cntG pr h K = K.length ↔ K.all pr = true ∧ K.length ≤ h
  | 0, K => by
    rw [cntG_zero]
    constructor
    · intro h; have := List.eq_nil_of_length_eq_zero h.symm; subst this; simp
    · rintro ⟨_, h⟩; omega
  | h + 1, [] => by simp [cntG]
  | h + 1, x :: r => by
    have ih := cntG_full pr h r
    have hle := cntG_le pr h r
    rw [cntG, List.all_cons, List.length_cons]
    by_cases hx : pr x = true
    · rw [if_pos hx, hx, Bool.true_and]
      constructor
      · intro h1; have := ih.1 (by omega); exact ⟨this.1, by omega⟩
      · rintro ⟨h1, h2⟩; have := ih.2 ⟨h1, by omega⟩; omega
    · rw [if_neg hx]
      constructor
      · intro h1; omega
      · rintro ⟨h1, -⟩; simp [hx] at h1

theorem one_group (f : FK) (lo hi : Nat) (K : List Int) : matchG [⟨f, lo, hi⟩] K = (K.all f.pr && decide (lo ≤ K.length) && decide (K.length ≤ hi)) := by
  rw [matchG_cons]
  show (if ((cntG f.pr ((hi : Int)).toNat K : Nat) : Int) < (lo : Int) then false else matchG [] (K.drop (cntG f.pr ((hi : Int)).toNat K))) = _
  rw [Int.toNat_natCast]
  have h1 := cntG_le f.pr hi K
  have h2 := cntG_full f.pr hi K
  by_cases hf : cntG f.pr hi K = K.length
  · obtain ⟨h3, h4⟩ := h2.1 hf
    rw [hf, h3, decide_eq_true h4]
    by_cases hl : lo ≤ K.length
    · rw [if_neg (by omega), decide_eq_true hl]
      show decide ((K.drop K.length).length = 0) = _
      simp
    · rw [if_pos (by omega), decide_eq_false hl]; rfl
  · have h3 : (K.all f.pr && decide (K.length ≤ hi)) = false := by
      cases h : (K.all f.pr && decide (K.length ≤ hi)) with
      | false => rfl
      | true =>
        rw [Bool.and_eq_true] at h
        exact absurd (h2.2 ⟨h.1, of_decide_eq_true h.2⟩) hf
    rw [Bool.and_assoc, Bool.and_comm (decide (lo ≤ K.length)), ← Bool.and_assoc, h3, Bool.false_and]
    split
    · rfl
    · show decide ((K.drop (cntG f.pr hi K)).length = 0) = false
      rw [List.length_drop]
      exact decide_eq_false (by omega)

theorem exact_one (c : Int) (K : List Int) : matchG [⟨.k c, 1, 1⟩] K = match K with
    | [x] => x == c
    | _ => false := by
  have := one_group (.k c) 1 1 K
  rw [show ((1 : Nat) : Int) = 1 from rfl] at this
  rw [this]
  match K with
  | [] => rfl
  | [x] => simp [FK.pr]
  | x :: y :: r => simp

theorem fun_group : ∀ (h : Nat) (K : List Int), h ≤ 8 → (if ((cntG (FK.k 4).pr h K : Nat) : Int) < 0 then false else matchG [⟨.k 5, 1, 1⟩] (K.drop (cntG (FK.k 4).pr h K))) = (funR K && decide (K.length ≤ h + 1))
  | 0, K, _ => by
    rw [cntG_zero, if_neg (by decide), List.drop_zero, exact_one]
    match K with
    | [] => rfl
    | [x] => simp [funR]
    | x :: y :: r => simp
  | h + 1, [], _ => by rw [cntG_nil, if_neg (by decide), List.drop_zero, exact_one]; rfl
  | h + 1, x :: r, hh => by
    have ih := fun_group h r (by omega)
    rw [if_neg (by omega)] at ih ⊢
    rw [cntG]
    by_cases hx : x = 4
    · have hp : (FK.k 4).pr x = true := by subst hx; rfl
      rw [if_pos hp, List.drop_succ_cons, ih]
      subst hx
      rw [funR]
      by_cases hr : r = []
      · subst hr; rfl
      · rw [if_neg hr]
        by_cases hl : r.length ≤ h + 1
        · have h8 : r.length ≤ 8 ∨ ¬r.length ≤ 8 := Decidable.em _
          rcases h8 with h8 | h8
          · simp [hl, h8]
          · have : r.length = 9 := by omega
            omega
        · simp [hl]
    · have hp : (FK.k 4).pr x = false := beq_false_of_ne hx
      rw [hp, if_neg Bool.false_ne_true, List.drop_zero, exact_one]
      match r with
      | [] => simp [funR]
      | y :: r => rw [funR]; simp [hx]

theorem fun_match (K : List Int) : matchG [⟨.k 4, 0, 8⟩, ⟨.k 5, 1, 1⟩] K = funR K := by
  rw [matchG_cons]
  show (if ((cntG (FK.k 4).pr 8 K : Nat) : Int) < 0 then false else matchG [⟨.k 5, 1, 1⟩] (K.drop (cntG (FK.k 4).pr 8 K))) = _
  rw [fun_group 8 K (Nat.le_refl _)]
  match K with
  | [] => rfl
  | x :: r =>
    by_cases hr : r = []
    · subst hr; simp [funR]
    · have e : funR (x :: r) = (x == 4 && decide (r.length ≤ 8) && funR r) := by rw [funR, if_neg hr]
      rw [e]
      by_cases h8 : r.length ≤ 8
      · simp [h8]
      · simp [h8]

theorem mod_group : ∀ (h : Nat) (K : List Int), K.length ≤ h → matchG [⟨.k 3, 0, 2000⟩] (K.drop (cntG (FK.k 2).pr h K)) = (modR K && decide ((K.drop (cntG (FK.k 2).pr h K)).length ≤ 2000))
  | h, [], _ => by
    rw [cntG_nil, List.drop_zero]
    have := one_group (.k 3) 0 2000 []
    exact this
  | 0, x :: r, hl => by simp at hl
  | h + 1, x :: r, hl => by
    rw [cntG]
    by_cases hx : x = 2
    · have hp : (FK.k 2).pr x = true := by subst hx; rfl
      rw [if_pos hp, List.drop_succ_cons, mod_group h r (by simpa using hl), modR, if_pos hx]
    · have hp : (FK.k 2).pr x = false := beq_false_of_ne hx
      rw [hp, if_neg Bool.false_ne_true, List.drop_zero, modR, if_neg hx]
      have := one_group (.k 3) 0 2000 (x :: r)
      rw [show (((0 : Nat) : Int)) = 0 from rfl, show (((2000 : Nat) : Int)) = 2000 from rfl] at this
      rw [this]
      have e : (x :: r).all (FK.k 3).pr = (x :: r).all (· == 3) := rfl
      rw [e]
      simp

theorem mod_match (K : List Int) (hl : K.length ≤ 2000) : matchG [⟨.k 2, 0, 2000⟩, ⟨.k 3, 0, 2000⟩] K = modR K := by
  rw [matchG_cons]
  show (if ((cntG (FK.k 2).pr 2000 K : Nat) : Int) < 0 then false else matchG [⟨.k 3, 0, 2000⟩] (K.drop (cntG (FK.k 2).pr 2000 K))) = _
  rw [if_neg (by omega), mod_group 2000 K hl, decide_eq_true (by rw [List.length_drop]; omega), Bool.and_true]

theorem e_first (_hi : Nat) (gs : List Gp) (x : Int) (r : List Int) : matchG (⟨.e, 1, 1⟩ :: gs) (x :: r) = (isExpr x && matchG gs r) := by
  rw [matchG_cons]
  show (if ((cntG isExpr 1 (x :: r) : Nat) : Int) < 1 then false else matchG gs ((x :: r).drop (cntG isExpr 1 (x :: r)))) = _
  rw [cntG, cntG_zero]
  cases h : isExpr x with
  | true => rw [if_pos rfl, if_neg (by decide)]; rfl
  | false => rw [if_neg Bool.false_ne_true, if_pos (by decide)]; rfl

theorem kids_match (k : Int) (K : List Int) (hl : K.length ≤ 2000) : matchG (groupsL k) K = kidsR k K := by
  unfold groupsL kidsR
  have o := fun f lo hi => one_group f lo hi K
  by_cases a1 : k = 1
  · rw [if_pos a1, if_pos a1, mod_match K hl]
  rw [if_neg a1, if_neg a1]
  by_cases a2 : k = 3 ∨ k = 24
  · rw [if_pos a2, if_pos a2, fun_match]
  rw [if_neg a2, if_neg a2]
  by_cases a3 : k = 5
  · rw [if_pos a3, if_pos a3]
    have := o .s 0 2000
    rw [show (((0 : Nat) : Int)) = 0 from rfl, show (((2000 : Nat) : Int)) = 2000 from rfl] at this
    rw [this, decide_eq_true hl]
    simp []
    rfl
  rw [if_neg a3, if_neg a3]
  by_cases a4 : k = 6 ∨ k = 7 ∨ k = 13 ∨ k = 14 ∨ k = 15 ∨ k = 17 ∨ k = 28 ∨ k = 30
  · rw [if_pos a4, if_neg (by omega), if_neg (by omega), if_neg (by omega), if_pos a4]
    have := o .e 1 1
    rw [show (((1 : Nat) : Int)) = 1 from rfl] at this
    rw [this, Bool.and_assoc]
    congr 1
    rw [← Bool.decide_and]
    exact decide_eq_decide.2 (by omega)
  rw [if_neg a4]
  by_cases a5 : k = 26 ∨ k = 27
  · rw [if_pos a5, if_neg (by omega), if_neg (by omega), if_neg (by omega), if_neg a4, if_neg (by omega), if_neg (by omega), if_pos a5]
    have := o .e 2 2
    rw [show (((2 : Nat) : Int)) = 2 from rfl] at this
    rw [this, Bool.and_assoc]
    congr 1
    rw [← Bool.decide_and]
    exact decide_eq_decide.2 (by omega)
  rw [if_neg a5]
  by_cases a6 : k = 8
  · rw [if_pos a6, if_pos a6]
    have := o .e 3 3
    rw [show (((3 : Nat) : Int)) = 3 from rfl] at this
    rw [this, Bool.and_assoc]
    congr 1
    rw [← Bool.decide_and]
    exact decide_eq_decide.2 (by omega)
  rw [if_neg a6, if_neg a6]
  by_cases a7 : k = 9
  · rw [if_pos a7, if_pos a7]
    match K with
    | [] => rfl
    | [x] => rw [e_first 1]; simp [matchG, cntG]
    | [x, y] =>
      rw [e_first 1]
      have := one_group (.k 5) 1 2 [y]
      rw [show (((1 : Nat) : Int)) = 1 from rfl, show (((2 : Nat) : Int)) = 2 from rfl] at this
      rw [this]; simp [FK.pr]
    | [x, y, z] =>
      rw [e_first 1]
      have := one_group (.k 5) 1 2 [y, z]
      rw [show (((1 : Nat) : Int)) = 1 from rfl, show (((2 : Nat) : Int)) = 2 from rfl] at this
      rw [this]; simp [FK.pr, Bool.and_assoc]
    | x :: y :: z :: t :: r =>
      rw [e_first 1]
      have := one_group (.k 5) 1 2 (y :: z :: t :: r)
      rw [show (((1 : Nat) : Int)) = 1 from rfl, show (((2 : Nat) : Int)) = 2 from rfl] at this
      rw [this]; simp
  rw [if_neg a7, if_neg a7]
  by_cases a8 : k = 10
  · rw [if_pos a8, if_pos a8]
    match K with
    | [] => rfl
    | [x] => rw [e_first 1]; simp [matchG, cntG]
    | [x, y] => rw [e_first 1, exact_one]
    | x :: y :: z :: r => rw [e_first 1, exact_one]; simp
  rw [if_neg a8, if_neg a8, if_neg a4]
  by_cases a9 : k = 22
  · rw [if_pos a9, if_pos a9]
    have := o .e 1 9
    rw [show (((1 : Nat) : Int)) = 1 from rfl, show (((9 : Nat) : Int)) = 9 from rfl] at this
    exact this
  rw [if_neg a9, if_neg a9]
  by_cases b1 : k = 23
  · rw [if_pos b1, if_pos b1]
    have := o .e 0 8
    rw [show (((0 : Nat) : Int)) = 0 from rfl, show (((8 : Nat) : Int)) = 8 from rfl] at this
    rw [this]
    simp []
    rfl
  rw [if_neg b1, if_neg b1, if_neg a5]
  rfl

end Go.Proofs.Ytcfgngaabledpaa.Tr
