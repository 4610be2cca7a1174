/- The tokens of a tree, by definition over what is still to be written; what is so of each. What was written of a tree is read as that tree: the machine over tokens that are alike. No walk, and no condition but those that each states. What was written of each kind of node is read as it. No walk, and no condition but those that each states. What was written of a module's right tree is read as it. No walk, and no condition but those that each states. What was written of a module's right tree is read as that tree. No walk, and no condition but those that each states. No condition but those that each states. -/
import Derived.Test.YtemlceicmpcboaaGreatDoorMgP
import Derived.Test.YtemlceicmpcboaaGreatDoorMgC
import Derived.Test.YtemlceicmpcboaaGreatDoorMgA
import Derived.Lib.ItoaNum
namespace Go.Proofs.YtemlceicmpcboaaGreatDoor.Sw
open Lx Tr Pa

/-! the tokens -/
def sgn (q : List UInt8) : Tk := ⟨if isKey q then 5 else 4, q, 0, 0⟩
def nmT (q : List UInt8) : Tk := ⟨1, q, 0, 0⟩
def inT (n : Int) : Tk := ⟨2, Lib.itoa n, n, 0⟩
def txT (q : List UInt8) : Tk := ⟨3, q, 0, 0⟩

/-- What a node stands for where it stands. -/
inductive Cat where
  | mod
  | part
  | par
  | blk
  | st
  | ex
deriving DecidableEq
def catP : Cat → Int → Bool
  | .mod, k => k == 1
  | .part, k => k == 2 || k == 3
  | .par, k => k == 4
  | .blk, k => k == 5
  | .st, k => isStmt k
  | .ex, k => isExpr k

/-- What is still to be written: a token, or the tree that comes next. -/
inductive PSy where
  | tok (t : Tk)
  | nd (c : Cat)
abbrev sg (q : List UInt8) : PSy := .tok (sgn q)
abbrev nm (q : List UInt8) : PSy := .tok (nmT q)
abbrev it (n : Int) : PSy := .tok (inT n)

/-- Trees with commas ahead. -/
def sepX (c : Cat) : Nat → List PSy
  | 0 => []
  | n + 1 => sg [44] :: .nd c :: sepX c n
/-- Trees in brackets, with commas between. -/
def lstX (c : Cat) : Nat → List PSy
  | 0 => [sg [40], sg [41]]
  | n + 1 => sg [40] :: .nd c :: (sepX c n ++ [sg [41]])
/-- A function's parameters and block. -/
def fnX (k : Nat) : List PSy := lstX .par (k - 1) ++ [.nd .blk]

/-- What comes in the place of a node. -/
def expX (x : Nd) : List PSy :=
  if x.kind = 1 then [sg [109, 111, 100, 117, 108, 101], nm x.name, it x.n, sg [59]] ++ List.replicate x.kids.toNat (.nd .part)
  else if x.kind = 2 then [sg [117, 115, 101], nm x.name, sg [46], nm x.text, sg [47], it x.n, sg [59]]
  else if x.kind = 3 then [sg [102, 110], nm x.name] ++ fnX x.kids.toNat
  else if x.kind = 4 then [nm x.name]
  else if x.kind = 5 then sg [123] :: (List.replicate x.kids.toNat (.nd .st) ++ [sg [125]])
  else if x.kind = 6 then [sg [108, 101, 116], nm x.name, sg [61], .nd .ex, sg [59]]
  else if x.kind = 7 then [nm x.name, sg [61], .nd .ex, sg [59]]
  else if x.kind = 8 then [.nd .ex, sg [91], .nd .ex, sg [93], sg [61], .nd .ex, sg [59]]
  else if x.kind = 9 then [sg [105, 102], .nd .ex, .nd .blk] ++ (if 2 < x.kids then [sg [101, 108, 115, 101], .nd .blk] else [])
  else if x.kind = 10 then [sg [119, 104, 105, 108, 101], .nd .ex, .nd .blk]
  else if x.kind = 11 then [sg [98, 114, 101, 97, 107], sg [59]]
  else if x.kind = 12 then [sg [99, 111, 110, 116, 105, 110, 117, 101], sg [59]]
  else if x.kind = 13 then [sg [114, 101, 116, 117, 114, 110], .nd .ex, sg [59]]
  else if x.kind = 14 then [sg [112, 117, 116], .nd .ex, sg [59]]
  else if x.kind = 15 then [sg [101, 109, 105, 116], .nd .ex, sg [59]]
  else if x.kind = 16 then [sg [121, 105, 101, 108, 100], sg [59]]
  else if x.kind = 17 then [.nd .ex, sg [59]]
  else if x.kind = 18 then [sg [110, 105, 108]]
  else if x.kind = 19 then [it x.n]
  else if x.kind = 20 then [.tok (txT x.text)]
  else if x.kind = 21 then [nm x.name]
  else if x.kind = 22 then .nd .ex :: lstX .ex (x.kids.toNat - 1)
  else if x.kind = 23 then [nm x.name, sg [46], nm x.text] ++ lstX .ex x.kids.toNat
  else if x.kind = 24 then sg [102, 110] :: fnX x.kids.toNat
  else if x.kind = 25 then [sg [123], sg [125]]
  else if x.kind = 26 then [.nd .ex, sg [91], .nd .ex, sg [93]]
  else if x.kind = 27 then [sg [40], .nd .ex, sg x.text, .nd .ex, sg [41]]
  else if x.kind = 28 then [sg [40], sg x.text, .nd .ex, sg [41]]
  else if x.kind = 29 then [sg [115, 116, 97, 116, 101]]
  else if x.kind = 30 then [sg [40], sg [115, 112, 97, 119, 110], .nd .ex, sg [41]]
  else []

/-- The trees that come. -/
def cats : List PSy → List Cat
  | [] => []
  | .tok _ :: A => cats A
  | .nd c :: A => c :: cats A
theorem cats_app (A B : List PSy) : cats (A ++ B) = cats A ++ cats B := by
  induction A with
  | nil => rfl
  | cons a A ih => cases a <;> simp [cats, ih]
theorem cats_rep (c : Cat) : ∀ n, cats (List.replicate n (.nd c)) = List.replicate n c
  | 0 => rfl
  | n + 1 => by rw [List.replicate_succ, List.replicate_succ]; show c :: cats _ = _; rw [cats_rep c n]
theorem cats_sep (c : Cat) : ∀ n, cats (sepX c n) = List.replicate n c
  | 0 => rfl
  | n + 1 => by show c :: cats (sepX c n) = _; rw [cats_sep c n, List.replicate_succ]
theorem cats_lst (c : Cat) : ∀ n, cats (lstX c n) = List.replicate n c
  | 0 => rfl
  | n + 1 => by
    show c :: cats (sepX c n ++ [sg [41]]) = _
    rw [cats_app, cats_sep, List.replicate_succ]
    simp [cats]
theorem cats_fn (k : Nat) : cats (fnX k) = List.replicate (k - 1) .par ++ [.blk] := by unfold fnX; rw [cats_app, cats_lst]; rfl

/-- Writing so much, over these nodes, gives these tokens, and leaves these nodes. -/
inductive Prn : List PSy → List Nd → List Tk → List Nd → Prop
  | nil (l : List Nd) : Prn [] l [] l
  | tok {A : List PSy} {l : List Nd} {ts : List Tk} {l' : List Nd} (t : Tk) (h : Prn A l ts l') : Prn (.tok t :: A) l (t :: ts) l'
  | nd {A : List PSy} {l : List Nd} {ts : List Tk} {l' : List Nd} (c : Cat) (x : Nd) (hc : catP c x.kind = true) (hk : x.kids = ((cats (expX x)).length : Int)) (hf : fieldsP x = true) (h : Prn (expX x ++ A) l ts l') : Prn (.nd c :: A) (x :: l) ts l'

theorem Prn.split {C : List PSy} {l l2 : List Nd} {ts : List Tk} (h : Prn C l ts l2) : ∀ A B, C = A ++ B → ∃ t1 t2 l1, ts = t1 ++ t2 ∧ Prn A l t1 l1 ∧ Prn B l1 t2 l2 := by
  induction h with
  | nil l =>
    intro A B e
    obtain ⟨rfl, rfl⟩ := List.append_eq_nil_iff.1 e.symm
    exact ⟨[], [], l, rfl, .nil l, .nil l⟩
  | @tok A0 l ts l' t h ih =>
    intro A B e
    cases A with
    | nil => rw [List.nil_append] at e; exact ⟨[], _, l, rfl, .nil l, by rw [← e]; exact .tok t h⟩
    | cons a A =>
      rw [List.cons_append] at e
      obtain ⟨rfl, e'⟩ := List.cons.inj e
      obtain ⟨t1, t2, l1, rfl, h1, h2⟩ := ih A B e'
      exact ⟨t :: t1, t2, l1, rfl, .tok t h1, h2⟩
  | @nd A0 l ts l' c x hc hk hf h ih =>
    intro A B e
    cases A with
    | nil => rw [List.nil_append] at e; exact ⟨[], _, _, rfl, .nil _, by rw [← e]; exact .nd c x hc hk hf h⟩
    | cons a A =>
      rw [List.cons_append] at e
      obtain ⟨rfl, e'⟩ := List.cons.inj e
      obtain ⟨t1, t2, l1, rfl, h1, h2⟩ := ih (expX x ++ A) B (by rw [e', List.append_assoc])
      exact ⟨t1, t2, l1, rfl, .nd c x hc hk hf h1, h2⟩
theorem Prn.join {A B : List PSy} {l l1 l2 : List Nd} {t1 t2 : List Tk} (h : Prn A l t1 l1) (k : Prn B l1 t2 l2) : Prn (A ++ B) l (t1 ++ t2) l2 := by
  induction h with
  | nil l => exact k
  | tok t h ih => exact .tok t (ih k)
  | nd c x hc hk hf h ih =>
    have h1 := ih k
    rw [List.append_assoc] at h1
    exact .nd c x hc hk hf h1
theorem Prn.tok_inv {t : Tk} {A : List PSy} {l l' : List Nd} {ts : List Tk} (h : Prn (.tok t :: A) l ts l') : ∃ ts', ts = t :: ts' ∧ Prn A l ts' l' := by
  cases h with | tok _ h => exact ⟨_, rfl, h⟩
theorem Prn.nd_inv {c : Cat} {l l' : List Nd} {ts : List Tk} (h : Prn [.nd c] l ts l') : ∃ x r, l = x :: r ∧ catP c x.kind = true ∧ x.kids = ((cats (expX x)).length : Int) ∧ fieldsP x = true ∧ Prn (expX x) r ts l' := by
  cases h with | nd _ x hc hk hf h => exact ⟨x, _, rfl, hc, hk, hf, by rw [List.append_nil] at h; exact h⟩
theorem Prn.nd_cons {c : Cat} {A : List PSy} {l l' : List Nd} {ts : List Tk} (h : Prn (.nd c :: A) l ts l') : ∃ t1 t2 l1, ts = t1 ++ t2 ∧ Prn [.nd c] l t1 l1 ∧ Prn A l1 t2 l' := h.split [.nd c] A rfl
/-- What is left is a part of what was there, and what was written over is so many trees. -/
theorem Prn.ends {A : List PSy} {l l' : List Nd} {ts : List Tk} (h : Prn A l ts l') : ∃ n, endW (cats A).length (kidsOf l) = some n ∧ l' = l.drop n := by
  induction h with
  | nil l => exact ⟨0, endW_zero _, by rw [List.drop_zero]⟩
  | tok t h ih => exact ih
  | @nd A l ts l' c x hc hk hf h ih =>
    obtain ⟨n, h1, h2⟩ := ih
    refine ⟨n + 1, ?_, by rw [h2]; rfl⟩
    show endW ((cats A).length + 1) (x.kids :: kidsOf l) = _
    rw [endW_cons, if_neg (by omega), hk, Int.toNat_natCast]
    rw [cats_app, List.length_append, Nat.add_comm] at h1
    rw [h1]; rfl
theorem Prn.less {A : List PSy} {l l' : List Nd} {ts : List Tk} (h : Prn A l ts l') : l'.length + (cats A).length ≤ l.length := by
  obtain ⟨n, h1, rfl⟩ := h.ends
  have := endW_le _ _ _ h1
  rw [kidsOf_len] at this
  rw [List.length_drop]; omega

/-! a right tree can be written -/
def okC : List Cat → List Int → Bool
  | [], [] => true
  | c :: cs, k :: ks => catP c k && okC cs ks
  | _, _ => false
theorem okC_app : ∀ (a b : List Cat) (K L : List Int), okC a K = true → okC b L = true → okC (a ++ b) (K ++ L) = true
  | [], b, [], L, _, h2 => h2
  | [], b, _ :: _, L, h1, _ => by cases h1
  | c :: a, b, [], L, h1, _ => by cases h1
  | c :: a, b, k :: K, L, h1, h2 => by
    have h1' : (catP c k && okC a K) = true := h1
    rw [Bool.and_eq_true] at h1'
    show (catP c k && okC (a ++ b) (K ++ L)) = true
    rw [h1'.1, okC_app a b K L h1'.2 h2]; rfl
theorem okC_rep (c : Cat) : ∀ K : List Int, (∀ k ∈ K, catP c k = true) → okC (List.replicate K.length c) K = true
  | [], _ => rfl
  | k :: K, h => by
    show (catP c k && okC (List.replicate K.length c) K) = true
    rw [h k (by simp), okC_rep c K (fun x hx => h x (by simp [hx]))]; rfl
theorem okC_len : ∀ (a : List Cat) (K : List Int), okC a K = true → a.length = K.length
  | [], [], _ => rfl
  | [], _ :: _, h => by cases h
  | _ :: _, [], h => by cases h
  | c :: a, k :: K, h => by
    have h' : (catP c k && okC a K) = true := h
    rw [Bool.and_eq_true] at h'
    rw [List.length_cons, List.length_cons, okC_len a K h'.2]
theorem okC_at : ∀ (a : List Cat) (K : List Int), okC a K = true → ∀ (j : Nat) (h1 : j < a.length) (h2 : j < K.length), catP a[j] K[j] = true
  | [], _, _, j, h1, _ => absurd h1 (Nat.not_lt_zero j)
  | _ :: _, [], h, _, _, _ => by cases h
  | c :: a, k :: K, h, j, h1, h2 => by
    have h' : (catP c k && okC a K) = true := h
    rw [Bool.and_eq_true] at h'
    cases j with
    | zero => exact h'.1
    | succ j => exact okC_at a K h'.2 j (Nat.lt_of_succ_lt_succ h1) (Nat.lt_of_succ_lt_succ h2)

theorem matchG_nil {K : List Int} (h : matchG [] K = true) : K = [] := List.eq_nil_of_length_eq_zero (of_decide_eq_true h)
theorem cntG_hi (pr : Int → Bool) : ∀ (h : Nat) (l : List Int), cntG pr h l ≤ h
  | 0, l => by rw [cntG_zero]; exact Nat.le_refl _
  | h + 1, [] => Nat.zero_le _
  | h + 1, x :: r => by
    have := cntG_hi pr h r
    rw [cntG]
    split
    · omega
    · exact Nat.zero_le _
theorem matchG_split {g : Gp} {gs : List Gp} {K : List Int} (h : matchG (g :: gs) K = true) : ∃ K1 K2, K = K1 ++ K2 ∧ (∀ k ∈ K1, g.f.pr k = true) ∧ g.lo ≤ (K1.length : Int) ∧ K1.length ≤ g.hi.toNat ∧ matchG gs K2 = true := by
  rw [matchG_cons] at h
  split at h
  · cases h
  · rename_i hlo
    have hl := cntG_le g.f.pr g.hi.toNat K
    refine ⟨K.take (cntG g.f.pr g.hi.toNat K), K.drop (cntG g.f.pr g.hi.toNat K), (List.take_append_drop _ _).symm, cntG_pr _ _ _, ?_, ?_, h⟩
    · rw [List.length_take, Nat.min_eq_left hl]; omega
    · rw [List.length_take, Nat.min_eq_left hl]; exact cntG_hi _ _ _
theorem matchG_one {f : FK} {lo hi : Int} {K : List Int} (h : matchG [⟨f, lo, hi⟩] K = true) : (∀ k ∈ K, f.pr k = true) ∧ lo ≤ (K.length : Int) ∧ K.length ≤ hi.toNat := by
  obtain ⟨K1, K2, rfl, h1, h2, h3, h4⟩ := matchG_split h
  rw [matchG_nil h4, List.append_nil]
  exact ⟨h1, h2, h3⟩
theorem matchG_two {f f' : FK} {lo hi lo' hi' : Int} {K : List Int} (h : matchG [⟨f, lo, hi⟩, ⟨f', lo', hi'⟩] K = true) : ∃ K1 K2, K = K1 ++ K2 ∧ (∀ k ∈ K1, f.pr k = true) ∧ lo ≤ (K1.length : Int) ∧ K1.length ≤ hi.toNat ∧ (∀ k ∈ K2, f'.pr k = true) ∧ lo' ≤ (K2.length : Int) ∧ K2.length ≤ hi'.toNat := by
  obtain ⟨K1, K2, rfl, h1, h2, h3, h4⟩ := matchG_split h
  obtain ⟨h5, h6, h7⟩ := matchG_one h4
  exact ⟨K1, K2, rfl, h1, h2, h3, h5, h6, h7⟩

theorem okC_n {c : Cat} {K : List Int} (n : Nat) (h : ∀ k ∈ K, catP c k = true) (hn : K.length = n) : okC (List.replicate n c) K = true := by rw [← hn]; exact okC_rep c K h
theorem ok_none {gs : List Gp} {K : List Int} {cs : List Cat} (h : matchG gs K = true) (hg : gs = []) (hc : cs = []) : okC cs K = true := by
  subst hg; subst hc; rw [matchG_nil h]; rfl
theorem ok_row {gs : List Gp} {K : List Int} {cs : List Cat} (n : Nat) (h : matchG gs K = true) (hg : gs = [⟨.e, (n : Int), (n : Int)⟩]) (hc : cs = List.replicate n .ex) : okC cs K = true := by
  subst hg; subst hc
  obtain ⟨a1, a2, a3⟩ := matchG_one h
  exact okC_n (c := .ex) n a1 (by omega)
theorem ok_fn {gs : List Gp} {K : List Int} {cs : List Cat} (h : matchG gs K = true) (hg : gs = [⟨.k 4, 0, 8⟩, ⟨.k 5, 1, 1⟩]) (hc : cs = cats (fnX ((K.length : Nat) : Int).toNat)) : okC cs K = true := by
  subst hg; subst hc
  obtain ⟨K1, K2, rfl, a1, a2, a3, a4, a5, a6⟩ := matchG_two h
  have h1 : K2.length = 1 := by
    have : K2.length ≤ 1 := a6
    omega
  have hl : (((K1 ++ K2).length : Nat) : Int).toNat - 1 = K1.length := by rw [List.length_append]; omega
  rw [cats_fn, hl]
  exact okC_app _ _ _ _ (okC_n (c := .par) _ a1 rfl) (okC_n (c := .blk) 1 a4 h1)
/-- The kinds of a right node's kids are those of the trees that come. -/
theorem kids_ok {x : Nd} {K : List Int} (hm : matchG (groupsL x.kind) K = true) (hk : x.kids = (K.length : Int)) (h1 : 1 ≤ x.kind) (h2 : x.kind ≤ 30) : okC (cats (expX x)) K = true := by
  obtain ⟨k, d, q, z, s⟩ := x
  simp only at hm hk h1 h2
  subst hk
  have hk : ∃ m : Nat, m < 31 ∧ k = (m : Int) := ⟨k.toNat, by omega, by omega⟩
  obtain ⟨m, hm31, rfl⟩ := hk
  have e1 : ∀ {k : Int}, (FK.k 2).pr k = true → catP .part k = true := fun h => by show (_ == _ || _ == _) = true; rw [show (_ == (2 : Int)) = true from h]; rfl
  have e2 : ∀ {k : Int}, (FK.k 3).pr k = true → catP .part k = true := fun h => by show (_ == _ || _ == _) = true; rw [show (_ == (3 : Int)) = true from h]; exact Bool.or_true _
  rcases (show m = 1 ∨ m = 2 ∨ m = 3 ∨ m = 4 ∨ m = 5 ∨ m = 6 ∨ m = 7 ∨ m = 8 ∨ m = 9 ∨ m = 10 ∨ m = 11 ∨ m = 12 ∨ m = 13 ∨ m = 14 ∨ m = 15 ∨ m = 16 ∨ m = 17 ∨ m = 18 ∨ m = 19 ∨ m = 20 ∨ m = 21 ∨ m = 22 ∨ m = 23 ∨ m = 24 ∨ m = 25 ∨ m = 26 ∨ m = 27 ∨ m = 28 ∨ m = 29 ∨ m = 30 by omega) with rfl | rfl | rfl | rfl | rfl | rfl | rfl | rfl | rfl | rfl | rfl | rfl | rfl | rfl | rfl | rfl | rfl | rfl | rfl | rfl | rfl | rfl | rfl | rfl | rfl | rfl | rfl | rfl | rfl | rfl
  all_goals first
    | exact ok_none hm rfl rfl
    | exact ok_row 1 hm rfl rfl
    | exact ok_row 2 hm rfl rfl
    | exact ok_row 3 hm rfl rfl
    | exact ok_fn hm rfl rfl
    | skip
  · -- a module
    obtain ⟨K1, K2, rfl, a1, a2, a3, a4, a5, a6⟩ := matchG_two (f := .k 2) (lo := 0) (hi := 2000) (f' := .k 3) (lo' := 0) (hi' := 2000) hm
    show okC (cats ([_, _, _, _] ++ List.replicate _ (.nd .part))) _ = true
    rw [cats_app, cats_rep]
    exact okC_n (c := .part) _ (fun k hk => (List.mem_append.1 hk).elim (fun h => e1 (a1 k h)) (fun h => e2 (a4 k h))) rfl
  · -- a block
    obtain ⟨a1, a2, a3⟩ := matchG_one (f := .s) (lo := 0) (hi := 2000) hm
    show okC (cats (List.replicate _ (.nd .st) ++ [_])) _ = true
    rw [cats_app, cats_rep]
    show okC (List.replicate _ Cat.st ++ []) _ = true
    rw [List.append_nil]
    exact okC_n (c := .st) _ a1 rfl
  · -- if
    obtain ⟨K1, K2, rfl, a1, a2, a3, a4, a5, a6⟩ := matchG_two (f := .e) (lo := 1) (hi := 1) (f' := .k 5) (lo' := 1) (hi' := 2) hm
    have h1 : K1.length = 1 := by simp at a3; omega
    show okC (cats ([_, _, _] ++ (if 2 < ((K1 ++ K2).length : Int) then _ else []))) _ = true
    by_cases h2 : K2.length = 2
    · rw [if_pos (by rw [List.length_append]; omega)]
      exact okC_app [.ex] [.blk, .blk] _ _ (okC_n (c := .ex) 1 a1 h1) (okC_n (c := .blk) 2 a4 h2)
    · rw [if_neg (by rw [List.length_append]; simp at a6; omega)]
      exact okC_app [.ex] [.blk] _ _ (okC_n (c := .ex) 1 a1 h1) (okC_n (c := .blk) 1 a4 (by simp at a6; omega))
  · -- while
    obtain ⟨K1, K2, rfl, a1, a2, a3, a4, a5, a6⟩ := matchG_two (f := .e) (lo := 1) (hi := 1) (f' := .k 5) (lo' := 1) (hi' := 1) hm
    exact okC_app [.ex] [.blk] _ _ (okC_n (c := .ex) 1 a1 (by simp at a3; omega)) (okC_n (c := .blk) 1 a4 (by simp at a6; omega))
  · -- a call
    obtain ⟨a1, a2, a3⟩ := matchG_one (f := .e) (lo := 1) (hi := 9) hm
    show okC (.ex :: cats (lstX .ex ((K.length : Int).toNat - 1))) K = true
    rw [cats_lst, ← List.replicate_succ]
    exact okC_n (c := .ex) _ a1 (by omega)
  · -- a call of another module's
    obtain ⟨a1, a2, a3⟩ := matchG_one (f := .e) (lo := 0) (hi := 8) hm
    show okC (cats ([_, _, _] ++ lstX .ex (K.length : Int).toNat)) K = true
    rw [cats_app, cats_lst]
    exact okC_n (c := .ex) _ a1 (by omega)

/-- So many trees, one behind the other. -/
theorem prn_row {l : List Nd} (P : Nat → Nat) : ∀ (A : List PSy) (a : Nat), (∀ j (h : j < (cats A).length), ∃ ts, Prn [.nd (cats A)[j]] (l.drop (P (a + j))) ts (l.drop (P (a + j + 1)))) → ∃ ts, Prn A (l.drop (P a)) ts (l.drop (P (a + (cats A).length)))
  | [], a, _ => ⟨[], .nil _⟩
  | .tok t :: A, a, h => by
    obtain ⟨ts, h1⟩ := prn_row P A a h
    exact ⟨t :: ts, .tok t h1⟩
  | .nd c :: A, a, h => by
    obtain ⟨t1, h1⟩ := h 0 (Nat.zero_lt_succ _)
    obtain ⟨t2, h2⟩ := prn_row P A (a + 1) (fun j hj => by
      have := h (j + 1) (Nat.succ_lt_succ hj)
      rw [show a + 1 + j = a + (j + 1) by omega]
      exact this)
    refine ⟨t1 ++ t2, ?_⟩
    rw [show a + (cats (.nd c :: A)).length = a + 1 + (cats A).length by show a + ((cats A).length + 1) = _; omega]
    exact Prn.join (A := [.nd c]) h1 h2

theorem kind_in {c : Cat} {k : Int} (h : catP c k = true) : 1 ≤ k ∧ k ≤ 30 := by
  cases c with
  | mod => have := eq_of_beq (show (k == 1) = true from h); omega
  | part =>
    have h' : (k == 2 || k == 3) = true := h
    rw [Bool.or_eq_true, beq_iff_eq, beq_iff_eq] at h'
    omega
  | par => have := eq_of_beq (show (k == 4) = true from h); omega
  | blk => have := eq_of_beq (show (k == 5) = true from h); omega
  | st => have h' : isStmt k = true := h; unfold isStmt at h'; simp at h'; omega
  | ex => have h' : isExpr k = true := h; unfold isExpr at h'; simp at h'; omega

theorem prn_tree {ts : List Nd} (hg : ∀ i, i < ts.length → goodAt ts i = true) : ∀ (f i n : Nat) (c : Cat), n < f → endW 1 ((kidsOf ts).drop i) = some n → catP c (kindAt ts (i : Int)) = true → ∃ o, Prn [.nd c] (ts.drop i) o (ts.drop (i + n))
  | 0, _, _, _, hf, _, _ => absurd hf (Nat.not_lt_zero _)
  | f + 1, i, n, c, hf, h, hc => by
    obtain ⟨k, hk, hk0, hF, hn1⟩ := endW_node h
    have hle := endW_le _ _ _ h
    rw [List.length_drop, kidsOf_len] at hle
    have hi : i < ts.length := by omega
    have hkk : ts[i].kids = k := by rw [kidsOf_at hi] at hk; exact Option.some.inj hk
    obtain ⟨q, rfl⟩ : ∃ q : Nat, k = (q : Int) := ⟨k.toNat, by omega⟩
    rw [Int.toNat_natCast] at hF
    have hkd : kindAt ts (i : Int) = ts[i].kind := by unfold kindAt; simp [hi]
    rw [hkd] at hc
    have hgi := hg i hi
    unfold goodAt at hgi
    rw [Bool.and_eq_true, hkd] at hgi
    have hx : ts.getD i Nd.zero = ts[i] := by simp [hi]
    rw [hx] at hgi
    have hK : kindsL ts (i : Int) = ((List.range q).map fun j => kindAt ts ((pos (kidsOf ts) (i + 1) j : Nat) : Int)) := by
      unfold kindsL
      rw [kidsZ_some h hk, Int.toNat_natCast]
      unfold posZ
      rw [List.map_map, List.map_map]
      rfl
    have hlen : (kindsL ts (i : Int)).length = q := by rw [hK]; simp
    obtain ⟨a1, a2⟩ := kind_in hc
    have hok := kids_ok hgi.2 (by rw [hlen]; exact hkk) a1 a2
    have hcl := okC_len _ _ hok
    rw [hlen] at hcl
    obtain ⟨o, ho⟩ := prn_row (l := ts) (pos (kidsOf ts) (i + 1)) (expX ts[i]) 0 (fun j hj => by
      rw [hcl] at hj
      obtain ⟨m, t1, t2, t3, t4⟩ := pos_tree hF hj
      have hca := okC_at _ _ hok j (by rw [hcl]; exact hj) (by rw [hlen]; exact hj)
      have e : (kindsL ts (i : Int))[j]'(by rw [hlen]; exact hj) = kindAt ts ((pos (kidsOf ts) (i + 1) j : Nat) : Int) := by
        simp only [hK, List.getElem_map, List.getElem_range]
      rw [e] at hca
      rw [Nat.zero_add, t3]
      have hge := (pos_at hF j (by omega)).2.2
      exact prn_tree hg f _ m _ (by omega) t1 hca)
    rw [Nat.zero_add, hcl, pos_end hF] at ho
    refine ⟨o, ?_⟩
    rw [List.drop_eq_getElem_cons hi]
    refine .nd c ts[i] hc (by rw [hkk, hcl]) hgi.1 ?_
    rw [List.append_nil, show i + n = i + 1 + (n - 1) by omega]
    exact ho
/-- A right tree can be written. -/
theorem prn_all {ts : List Nd} (h : (checkL ts).1 = 0) : ∃ o, Prn [.nd .mod] ts o [] := by
  obtain ⟨h1, h2, h3, h4, h5⟩ := check_ok h
  obtain ⟨o, ho⟩ := prn_tree h5 (ts.length + 1) 0 ts.length .mod (Nat.lt_succ_self _) h3 (by show (kindAt ts 0 == 1) = true; rw [h4]; rfl)
  rw [List.drop_zero, Nat.zero_add, List.drop_length] at ho
  exact ⟨o, ho⟩

end Go.Proofs.YtemlceicmpcboaaGreatDoor.Sw
namespace Go.Proofs.YtemlceicmpcboaaGreatDoor.Sw
open Lx Tr Pa

variable {L : List Tk}

/-! tokens that are alike -/
/-- At a place stands such a token. -/
def At (L : List Tk) (i : Nat) (t : Tk) : Prop := ∃ u, L[i]? = some u ∧ key3 u = key3 t
def Lay (L : List Tk) (i : Nat) (ts : List Tk) : Prop := ∀ j t, ts[j]? = some t → At L (i + j) t
theorem Lay.cons {i : Nat} {t : Tk} {ts : List Tk} (h : Lay L i (t :: ts)) : At L i t ∧ Lay L (i + 1) ts :=
  ⟨h 0 t rfl, fun j u hu => by have := h (j + 1) u (by simpa using hu); rwa [show i + (j + 1) = i + 1 + j by omega] at this⟩
theorem Lay.app {i : Nat} {a b : List Tk} (h : Lay L i (a ++ b)) : Lay L i a ∧ Lay L (i + a.length) b := by
  refine ⟨fun j u hu => h j u ?_, fun j u hu => ?_⟩
  · rw [List.getElem?_append_left (List.getElem?_eq_some_iff.1 hu).1]; exact hu
  · have := h (a.length + j) u (by rw [List.getElem?_append_right (by omega), Nat.add_sub_cancel_left]; exact hu)
    rwa [← Nat.add_assoc] at this

theorem At.parts {i : Nat} {t : Tk} (h : At L i t) : kd L i = t.kind ∧ tx L i = t.text ∧ Pa.nm L i = t.n ∧ Pa.sg L i = if t.kind = 5 ∨ t.kind = 4 then t.text else [] := by
  obtain ⟨u, hu, hk⟩ := h
  unfold key3 at hk
  obtain ⟨h1, h2⟩ := Prod.mk.inj hk
  obtain ⟨h3, h4⟩ := Prod.mk.inj h2
  unfold kd tx Pa.nm Pa.sg
  rw [hu]
  simp only
  rw [h1, h3, h4]
  exact ⟨rfl, rfl, rfl, rfl⟩
theorem At.sgn {i : Nat} {q : List UInt8} (h : At L i (sgn q)) : Pa.sg L i = q ∧ kd L i ≠ 1 ∧ kd L i ≠ 2 ∧ kd L i ≠ 3 := by
  obtain ⟨h1, -, -, h4⟩ := h.parts
  rw [h1, h4]
  unfold Sw.sgn
  simp only
  split <;> simp
theorem At.name {i : Nat} {q : List UInt8} (h : At L i (nmT q)) : kd L i = 1 ∧ tx L i = q ∧ Pa.sg L i = [] := by
  obtain ⟨h1, h2, -, h4⟩ := h.parts
  exact ⟨h1, h2, h4⟩
theorem At.int {i : Nat} {n : Int} (h : At L i (inT n)) : kd L i = 2 ∧ Pa.nm L i = n ∧ Pa.sg L i = [] := by
  obtain ⟨h1, -, h3, h4⟩ := h.parts
  exact ⟨h1, h3, h4⟩
theorem At.text {i : Nat} {q : List UInt8} (h : At L i (txT q)) : kd L i = 3 ∧ tx L i = q ∧ Pa.sg L i = [] := by
  obtain ⟨h1, h2, -, h4⟩ := h.parts
  exact ⟨h1, h2, h4⟩

/-- What is written lies in the row. -/
def PL (L : List Tk) (A : List PSy) (l l' : List Nd) (i j : Nat) : Prop := ∃ ts, Prn A l ts l' ∧ Lay L i ts ∧ j = i + ts.length
theorem PL.tok {A : List PSy} {l l' : List Nd} {i j : Nat} {t : Tk} (h : PL L (.tok t :: A) l l' i j) : At L i t ∧ PL L A l l' (i + 1) j := by
  obtain ⟨ts, h1, h2, rfl⟩ := h
  obtain ⟨ts', rfl, h3⟩ := h1.tok_inv
  obtain ⟨h4, h5⟩ := h2.cons
  exact ⟨h4, ts', h3, h5, by rw [List.length_cons]; omega⟩
theorem PL.app {A B : List PSy} {l l' : List Nd} {i j : Nat} (h : PL L (A ++ B) l l' i j) : ∃ l1 k, PL L A l l1 i k ∧ PL L B l1 l' k j := by
  obtain ⟨ts, h1, h2, rfl⟩ := h
  obtain ⟨t1, t2, l1, rfl, h3, h4⟩ := h1.split A B rfl
  obtain ⟨h5, h6⟩ := h2.app
  exact ⟨l1, i + t1.length, ⟨t1, h3, h5, rfl⟩, t2, h4, h6, by rw [List.length_append]; omega⟩
theorem PL.nd {c : Cat} {A : List PSy} {l l' : List Nd} {i j : Nat} (h : PL L (.nd c :: A) l l' i j) : ∃ l1 k, PL L [.nd c] l l1 i k ∧ PL L A l1 l' k j := PL.app (A := [.nd c]) h
theorem PL.nil {l l' : List Nd} {i j : Nat} (h : PL L [] l l' i j) : l = l' ∧ i = j := by
  obtain ⟨ts, h1, -, rfl⟩ := h
  cases h1
  exact ⟨rfl, rfl⟩
theorem PL.less {A : List PSy} {l l' : List Nd} {i j : Nat} (h : PL L A l l' i j) : l'.length + (cats A).length ≤ l.length := by
  obtain ⟨ts, h1, -, -⟩ := h
  exact h1.less
theorem PL.node {c : Cat} {l l' : List Nd} {i j : Nat} (h : PL L [.nd c] l l' i j) : ∃ x r, l = x :: r ∧ catP c x.kind = true ∧ x.kids = ((cats (expX x)).length : Int) ∧ fieldsP x = true ∧ PL L (expX x) r l' i j := by
  obtain ⟨ts, h1, h2, h3⟩ := h
  obtain ⟨x, r, e, hc, hk, hf, h4⟩ := h1.nd_inv
  exact ⟨x, r, e, hc, hk, hf, ts, h4, h2, h3⟩

/-! the machine's steps -/
def R (L : List Tk) (a : Sy) (t : List Nd) (i j : Nat) : Prop := ∀ K V, To L (.run (a :: K) V i) (.run K (t :: V) j)
def RE (L : List Tk) (t : List Nd) (i j : Nat) : Prop := ∀ K V, To L (.run (.prim :: .post :: K) V i) (.run (.post :: K) (t :: V) j)

theorem s_mark {q : List UInt8} {i : Nat} (h : Pa.sg L i = q) (K : List Sy) (V : List (List Nd)) : To L (.run (.mark q :: K) V i) (.run K V (i + 1)) := to_some (a := .mark q) (B := []) (by show (if Pa.sg L i = q then _ else _) = _; rw [if_pos h])
theorem s_mk (x : Nd) (us : List (List Nd)) (K : List Sy) (V : List (List Nd)) (i : Nat) : To L (.run (.mk x us.length :: K) (us.reverse ++ V) i) (.run K (join x us :: V) i) := by
  refine to_some (a := .mk x us.length) (B := []) ?_
  show (if us.length ≤ (us.reverse ++ V).length then some (([] : List Sy), join x ((us.reverse ++ V).take us.length).reverse :: (us.reverse ++ V).drop us.length, i) else none) = _
  have e : us.length = us.reverse.length := by rw [List.length_reverse]
  rw [if_pos (by rw [List.length_append, List.length_reverse]; omega)]
  rw [e, List.take_left, List.drop_left, List.reverse_reverse]

/-- Signs behind which an expression goes on. -/
def goesOn (q : List UInt8) : Bool := q == [40] || q == [91] || (level 0).contains q || (level 1).contains q || (level 2).contains q || (level 3).contains q || (level 4).contains q
/-- Signs of one operand. -/
def isOne (q : List UInt8) : Bool := q == [115, 112, 97, 119, 110] || ([[45], [110, 111, 116], [108, 101, 110]] : List (List UInt8)).contains q

theorem e5_of {t : List Nd} {i j : Nat} (h : RE L t i j) (hi : isOne (Pa.sg L i) = false) (hj : Pa.sg L j ≠ [40] ∧ Pa.sg L j ≠ [91]) : R L (.e 5) t i j := by
  intro K V
  unfold isOne at hi
  rw [Bool.or_eq_false_iff] at hi
  have h1 : one L (.e 5) V i = some ([.prim, .post], V, i) := by
    show (if 5 < 5 then some ([Sy.e 6, .row 5], V, i) else if Pa.sg L i = [115, 112, 97, 119, 110] then some ([.e 5, .mk (Pa.nd 30) 1], V, i + 1) else if Pa.sg L i ∈ ([[45], [110, 111, 116], [108, 101, 110]] : List (List UInt8)) then some ([.e 5, .mk { Pa.nd 28 with text := Pa.sg L i } 1], V, i + 1) else some ([.prim, .post], V, i)) = _
    rw [if_neg (by decide), if_neg (by simpa using hi.1), if_neg (fun hm => by have := List.contains_iff_mem.2 hm; rw [this] at hi; cases hi.2)]
  have h2 : one L .post (t :: V) j = some ([], t :: V, j) := by
    show (if Pa.sg L j = [40] then _ else if Pa.sg L j = [91] then _ else _) = _
    rw [if_neg hj.1, if_neg hj.2]
  exact ((to_some h1).trans (h K V)).trans (to_some (A := K) h2)
theorem e_up {t : List Nd} {i j n : Nat} (hn : n < 5) (h : R L (.e (n + 1)) t i j) (hj : Pa.sg L j ∉ level n) : R L (.e n) t i j := by
  intro K V
  have h1 : one L (.e n) V i = some ([.e (n + 1), .row n], V, i) := by
    show (if n < 5 then _ else _) = _
    rw [if_pos hn]
  have h2 : one L (.row n) (t :: V) j = some ([], t :: V, j) := by
    show (if Pa.sg L j ∈ level n then _ else _) = _
    rw [if_neg hj]
  exact ((to_some h1).trans (h _ _)).trans (to_some (A := K) h2)
theorem e_from {t : List Nd} {i j : Nat} (h : R L (.e 5) t i j) (hj : goesOn (Pa.sg L j) = false) : ∀ n, n ≤ 5 → R L (.e (5 - n)) t i j := by
  unfold goesOn at hj
  simp only [Bool.or_eq_false_iff] at hj
  obtain ⟨⟨⟨⟨⟨⟨-, -⟩, l0⟩, l1⟩, l2⟩, l3⟩, l4⟩ := hj
  have hl : ∀ n, n < 5 → Pa.sg L j ∉ level n := by
    intro n hn hm
    have := List.contains_iff_mem.2 hm
    rcases (show n = 0 ∨ n = 1 ∨ n = 2 ∨ n = 3 ∨ n = 4 by omega) with rfl | rfl | rfl | rfl | rfl
    · rw [this] at l0; cases l0
    · rw [this] at l1; cases l1
    · rw [this] at l2; cases l2
    · rw [this] at l3; cases l3
    · rw [this] at l4; cases l4
  intro n
  induction n with
  | zero => exact fun _ => h
  | succ m ih =>
    intro hm
    have := ih (by omega)
    rw [show 5 - m = (5 - (m + 1)) + 1 by omega] at this
    exact e_up (by omega) this (hl _ (by omega))
/-- An expression, behind which it does not go on. -/
theorem e0_of {t : List Nd} {i j : Nat} (h : RE L t i j) (hi : isOne (Pa.sg L i) = false) (hj : goesOn (Pa.sg L j) = false) : R L (.e 0) t i j := by
  have h2 := hj
  unfold goesOn at h2
  simp only [Bool.or_eq_false_iff] at h2
  exact e_from (e5_of h hi ⟨by simpa using h2.1.1.1.1.1.1, by simpa using h2.1.1.1.1.1.2⟩) hj 5 (Nat.le_refl _)

/-- What reading a tree is, by what it stands for. -/
def RdC (L : List Tk) : Cat → List Nd → Nat → Nat → Prop
  | .ex, t, i, j => (Pa.sg L j ≠ [46] → RE L t i j) ∧ isOne (Pa.sg L i) = false ∧ stmtA (Pa.sg L i) = none ∧ Pa.sg L i ≠ [125] ∧ Pa.sg L i ≠ [101, 108, 115, 101] ∧ Pa.sg L i ≠ [41]
  | .st, t, i, j => (Pa.sg L j ≠ [101, 108, 115, 101] → R L .stmt t i j) ∧ Pa.sg L i ≠ [125] ∧ Pa.sg L i ≠ [101, 108, 115, 101]
  | .blk, t, i, j => R L .blk t i j ∧ Pa.sg L i = [123]
  | .par, t, i, j => R L .par t i j ∧ Pa.sg L i ≠ [41]
  | .part, t, i, j => (headK t = 2 → Pa.sg L i = [117, 115, 101] ∧ R L .useN t (i + 1) j) ∧ (headK t = 3 → Pa.sg L i = [102, 110] ∧ R L .funN t (i + 1) j)
  | .mod, _, _, _ => True
/-- All trees up to so many nodes are read. -/
def Rds (L : List Tk) (N : Nat) : Prop := ∀ c l l' i j, l.length < N → PL L [.nd c] l l' i j → ∃ t, l = t ++ l' ∧ RdC L c t i j

/-! lists -/
def symP : Bool → Sy
  | true => .par
  | false => .e 0
def catO : Bool → Cat
  | true => .par
  | false => .ex
theorem item_of {N : Nat} (hR : Rds L N) (p : Bool) {l l' : List Nd} {i j : Nat} (hl : l.length < N) (h : PL L [.nd (catO p)] l l' i j) (hj : Pa.sg L j = [44] ∨ Pa.sg L j = [41]) : ∃ t, l = t ++ l' ∧ R L (symP p) t i j ∧ Pa.sg L i ≠ [41] := by
  obtain ⟨t, e, hd⟩ := hR _ l l' i j hl h
  refine ⟨t, e, ?_⟩
  cases p with
  | true => exact hd
  | false =>
    obtain ⟨h1, h2, -, -, -, h6⟩ := hd
    refine ⟨e0_of (h1 ?_) h2 ?_, h6⟩
    · rcases hj with h | h <;> rw [h] <;> decide
    · rcases hj with h | h <;> rw [h] <;> decide
theorem seps_of {N : Nat} (hR : Rds L N) (p : Bool) (x : Nd) : ∀ (n m : Nat) (l l' : List Nd) (i j : Nat), l.length < N → PL L (sepX (catO p) n ++ [sg [41]]) l l' i j → ∃ us : List (List Nd), us.length = n ∧ l = us.flatten ++ l' ∧ (Pa.sg L i = [44] ∨ Pa.sg L i = [41]) ∧
      ∀ K V, To L (.run (.lN p x m :: K) V i) (.run (.lC p x (m + n) :: K) (us.reverse ++ V) j)
  | 0, m, l, l', i, j, hl, h => by
    obtain ⟨h1, h2⟩ := h.tok
    obtain ⟨rfl, rfl⟩ := h2.nil
    have hq := h1.sgn.1
    refine ⟨[], rfl, rfl, .inr hq, fun K V => to_some (a := .lN p x m) (B := [.lC p x m]) ?_⟩
    show (if Pa.sg L i = [44] then _ else if Pa.sg L i = [41] then _ else none) = _
    rw [if_neg (by rw [hq]; decide), if_pos hq]; rfl
  | n + 1, m, l, l', i, j, hl, h => by
    obtain ⟨h1, h2⟩ := h.tok
    obtain ⟨l1, k, h3, h4⟩ := h2.nd
    have hless := h3.less
    obtain ⟨us, u1, u2, u3, u4⟩ := seps_of hR p x n (m + 1) l1 l' k j (by omega) h4
    obtain ⟨t, e, ht, -⟩ := item_of hR p hl h3 u3
    have hq := h1.sgn.1
    refine ⟨t :: us, by rw [List.length_cons, u1], by rw [e, u2]; simp, .inl hq, fun K V => ?_⟩
    have h5 : one L (.lN p x m) V i = some ([symP p, .lN p x (m + 1)], V, i + 1) := by
      show (if Pa.sg L i = [44] then some ([if p then Sy.par else .e 0, .lN p x (m + 1)], V, i + 1) else _) = _
      rw [if_pos hq]
      cases p <;> rfl
    have h6 := ((to_some (A := K) h5).trans (ht _ _)).trans (u4 K _)
    rw [show m + 1 + n = m + (n + 1) by omega] at h6
    rw [List.reverse_cons, List.append_assoc]
    exact h6
/-- Behind the bracket. -/
theorem lst_of {N : Nat} (hR : Rds L N) (p : Bool) (x : Nd) (n m : Nat) {l l' : List Nd} {i j : Nat} (hl : l.length < N) (h : PL L (lstX (catO p) n) l l' i j) : ∃ us : List (List Nd), us.length = n ∧ l = us.flatten ++ l' ∧ Pa.sg L i = [40] ∧
      ∀ K V, To L (.run (.lF p x m :: K) V (i + 1)) (.run (.lC p x (m + n) :: K) (us.reverse ++ V) j) := by
  cases n with
  | zero =>
    obtain ⟨h1, h2⟩ := h.tok
    obtain ⟨h3, h4⟩ := h2.tok
    obtain ⟨rfl, rfl⟩ := h4.nil
    refine ⟨[], rfl, rfl, h1.sgn.1, fun K V => to_some (a := .lF p x m) (B := [.lC p x m]) ?_⟩
    show (if Pa.sg L (i + 1) = [41] then _ else _) = _
    rw [if_pos h3.sgn.1]; rfl
  | succ n =>
    obtain ⟨h1, h2⟩ := h.tok
    obtain ⟨l1, k, h3, h4⟩ := h2.nd
    have hless := h3.less
    obtain ⟨us, u1, u2, u3, u4⟩ := seps_of hR p x n (m + 1) l1 l' k j (by omega) h4
    obtain ⟨t, e, ht, hne⟩ := item_of hR p hl h3 u3
    refine ⟨t :: us, by rw [List.length_cons, u1], by rw [e, u2]; simp, h1.sgn.1, fun K V => ?_⟩
    have h5 : one L (.lF p x m) V (i + 1) = some ([symP p, .lN p x (m + 1)], V, i + 1) := by
      show (if Pa.sg L (i + 1) = [41] then _ else some ([if p then Sy.par else .e 0, .lN p x (m + 1)], V, i + 1)) = _
      rw [if_neg hne]
      cases p <;> rfl
    have h6 := ((to_some (A := K) h5).trans (ht _ _)).trans (u4 K _)
    rw [show m + 1 + n = m + (n + 1) by omega] at h6
    rw [List.reverse_cons, List.append_assoc]
    exact h6
/-- A function's parameters and block. -/
theorem fn_of {N : Nat} (hR : Rds L N) (x : Nd) (n : Nat) {l l' : List Nd} {i j : Nat} (hl : l.length < N) (h : PL L (fnX n) l l' i j) : ∃ us : List (List Nd), us.length = n - 1 + 1 ∧ l = us.flatten ++ l' ∧ R L (.fn x) (join x us) i j := by
  obtain ⟨l1, k, h1, h2⟩ := PL.app h
  have hless := h1.less
  obtain ⟨us, u1, u2, u3, u4⟩ := lst_of hR true x (n - 1) 0 hl h1
  obtain ⟨t, e, ht, -⟩ := hR .blk l1 l' k j (by omega) h2
  refine ⟨us ++ [t], by rw [List.length_append, u1]; rfl, by rw [u2, e]; simp, fun K V => ?_⟩
  have s1 : one L (.fn x) V i = some ([.mark [40], .lF true x 0], V, i) := rfl
  have s2 : one L (.lC true x (0 + (n - 1))) (us.reverse ++ V) k = some ([.blk, .mk x (0 + (n - 1) + 1)], us.reverse ++ V, k) := rfl
  have h6 := (((to_some (A := K) s1).trans (s_mark u3 _ _)).trans (u4 K V)).trans (to_some (A := K) s2)
  have h7 := h6.trans (ht _ _)
  have h8 := s_mk (L := L) x (us ++ [t]) K V j
  rw [List.length_append, u1, List.reverse_append] at h8
  rw [Nat.zero_add] at h7
  exact h7.trans h8

theorem join_x {x : Nd} {us : List (List Nd)} (h : x.kids = (us.length : Int)) : join x us = x :: us.flatten := by
  obtain ⟨a, b, c, d, e⟩ := x
  simp only at h
  subst h
  rfl
theorem join_of {x y : Nd} {us : List (List Nd)} (h : x.kids = (us.length : Int)) (hy : y = { x with kids := 0 }) : join y us = x :: us.flatten := by
  subst hy
  exact (join_x (x := x) h) ▸ rfl

end Go.Proofs.YtemlceicmpcboaaGreatDoor.Sw
namespace Go.Proofs.YtemlceicmpcboaaGreatDoor.Sw
open Lx Tr Pa

variable {L : List Tk}

theorem pl_whole {c : Cat} {l l' t : List Nd} {i j : Nat} (h : PL L [.nd c] l l' i j) (e : l = t ++ l') : endW 1 (kidsOf t) = some t.length := by
  obtain ⟨ts, h1, -, -⟩ := h
  obtain ⟨n, h2, h3⟩ := h1.ends
  have h2' : endW 1 (kidsOf l) = some n := h2
  have hn := (endW_le _ _ _ h2').2
  rw [kidsOf_len] at hn
  have hl := congrArg List.length h3
  rw [List.length_drop] at hl
  have hl2 := congrArg List.length e
  rw [List.length_append] at hl2
  have ht : t = l.take n := by rw [e]; rw [show n = t.length by omega, List.take_left]
  have e2 : kidsOf t = (kidsOf l).take n := by rw [ht]; simp [kidsOf, List.map_take]
  rw [e2, endW_take h2', show t.length = n by omega]

theorem s_stmt {A : List Sy} {i : Nat} (h : stmtA (Pa.sg L i) = some A) (K : List Sy) (V : List (List Nd)) : To L (.run (.stmt :: K) V i) (.run (A ++ K) V (i + 1)) := to_some (a := .stmt) (by simp only [one]; rw [h])
theorem s_stmt_no {i : Nat} (h : stmtA (Pa.sg L i) = none) (K : List Sy) (V : List (List Nd)) : To L (.run (.stmt :: K) V i) (.run (.e 0 :: .asg :: K) V i) := to_some (a := .stmt) (B := [.e 0, .asg]) (by simp only [one]; rw [h])
theorem s_prim {q : List UInt8} {A : List Sy} {i : Nat} (h : At L i (sgn q)) (hA : primA q = some A) (K : List Sy) (V : List (List Nd)) : To L (.run (.prim :: K) V i) (.run (A ++ K) V (i + 1)) := by
  obtain ⟨h1, h2, h3, h4⟩ := h.sgn
  refine to_some (a := .prim) ?_
  show (if kd L i = 2 then some ([Sy.mk { Pa.nd 19 with n := Pa.nm L i } 0], V, i + 1) else if kd L i = 3 then some ([Sy.mk { Pa.nd 20 with text := tx L i } 0], V, i + 1) else if kd L i = 1 then some ([Sy.outer (tx L i)], V, i + 1) else (primA (Pa.sg L i)).map fun A => (A, V, i + 1)) = _
  rw [if_neg h3, if_neg h4, if_neg h2, h1, hA]; rfl
theorem s_int {n : Int} {i : Nat} (h : At L i (inT n)) (K : List Sy) (V : List (List Nd)) : To L (.run (.prim :: K) V i) (.run (.mk { Pa.nd 19 with n := n } 0 :: K) V (i + 1)) := by
  obtain ⟨h1, h2, h3⟩ := h.int
  refine to_some (a := .prim) (B := [_]) ?_
  show (if kd L i = 2 then some ([Sy.mk { Pa.nd 19 with n := Pa.nm L i } 0], V, i + 1) else _) = _
  rw [if_pos h1, h2]
theorem s_text {q : List UInt8} {i : Nat} (h : At L i (txT q)) (K : List Sy) (V : List (List Nd)) : To L (.run (.prim :: K) V i) (.run (.mk { Pa.nd 20 with text := q } 0 :: K) V (i + 1)) := by
  obtain ⟨h1, h2, h3⟩ := h.text
  refine to_some (a := .prim) (B := [_]) ?_
  show (if kd L i = 2 then some ([Sy.mk { Pa.nd 19 with n := Pa.nm L i } 0], V, i + 1) else if kd L i = 3 then some ([Sy.mk { Pa.nd 20 with text := tx L i } 0], V, i + 1) else _) = _
  rw [if_neg (by rw [h1]; decide), if_pos h1, h2]
theorem s_name {q : List UInt8} {i : Nat} (h : At L i (nmT q)) (K : List Sy) (V : List (List Nd)) : To L (.run (.prim :: K) V i) (.run (.outer q :: K) V (i + 1)) := by
  obtain ⟨h1, h2, h3⟩ := h.name
  refine to_some (a := .prim) (B := [_]) ?_
  show (if kd L i = 2 then some ([Sy.mk { Pa.nd 19 with n := Pa.nm L i } 0], V, i + 1) else if kd L i = 3 then some ([Sy.mk { Pa.nd 20 with text := tx L i } 0], V, i + 1) else if kd L i = 1 then some ([Sy.outer (tx L i)], V, i + 1) else _) = _
  rw [if_neg (by rw [h1]; decide), if_neg (by rw [h1]; decide), if_pos h1, h2]
theorem s_need {a : Sy} {B : List UInt8 → List Sy} {q : List UInt8} {i : Nat} (h : At L i (nmT q)) (ho : ∀ V, one L a V i = need L 1 V i (B (tx L i))) (K : List Sy) (V : List (List Nd)) : To L (.run (a :: K) V i) (.run (B q ++ K) V (i + 1)) := by
  obtain ⟨h1, h2, h3⟩ := h.name
  refine to_some (a := a) ?_
  rw [ho]
  unfold need
  rw [if_pos h1, h2]
theorem s_need2 {a : Sy} {B : Int → List Sy} {n : Int} {i : Nat} (h : At L i (inT n)) (ho : ∀ V, one L a V i = need L 2 V i (B (Pa.nm L i))) (K : List Sy) (V : List (List Nd)) : To L (.run (a :: K) V i) (.run (B n ++ K) V (i + 1)) := by
  obtain ⟨h1, h2, h3⟩ := h.int
  refine to_some (a := a) ?_
  rw [ho]
  unfold need
  rw [if_pos h1, h2]

/-- A leaf. -/
theorem leaf {x y : Nd} (hk : x.kids = 0) (hy : y = { x with kids := 0 }) (K : List Sy) (V : List (List Nd)) (i : Nat) : To L (.run (.mk y 0 :: K) V i) (.run K ([x] :: V) i) := by
  have h := s_mk (L := L) y [] K V i
  have e := join_of (x := x) (y := y) (us := []) (by simpa using hk) hy
  rw [e] at h
  exact h
theorem node1 {x y : Nd} {t : List Nd} (hk : x.kids = 1) (hy : y = { x with kids := 0 }) (K : List Sy) (V : List (List Nd)) (i : Nat) : To L (.run (.mk y 1 :: K) (t :: V) i) (.run K ((x :: (t ++ [])) :: V) i) := by
  have h := s_mk (L := L) y [t] K V i
  rw [join_of (x := x) (y := y) (us := [t]) (by simpa using hk) hy] at h
  exact h
theorem node2 {x y : Nd} {t u : List Nd} (hk : x.kids = 2) (hy : y = { x with kids := 0 }) (K : List Sy) (V : List (List Nd)) (i : Nat) : To L (.run (.mk y 2 :: K) (u :: t :: V) i) (.run K ((x :: (t ++ (u ++ []))) :: V) i) := by
  have h := s_mk (L := L) y [t, u] K V i
  rw [join_of (x := x) (y := y) (us := [t, u]) (by simpa using hk) hy] at h
  exact h
theorem node3 {x y : Nd} {t u v : List Nd} (hk : x.kids = 3) (hy : y = { x with kids := 0 }) (K : List Sy) (V : List (List Nd)) (i : Nat) : To L (.run (.mk y 3 :: K) (v :: u :: t :: V) i) (.run K ((x :: (t ++ (u ++ (v ++ [])))) :: V) i) := by
  have h := s_mk (L := L) y [t, u, v] K V i
  rw [join_of (x := x) (y := y) (us := [t, u, v]) (by simpa using hk) hy] at h
  exact h
theorem nodeN {x y : Nd} {us : List (List Nd)} (hk : x.kids = (us.length : Int)) (hy : y = { x with kids := 0 }) (K : List Sy) (V : List (List Nd)) (i : Nat) : To L (.run (.mk y us.length :: K) (us.reverse ++ V) i) (.run K ((x :: us.flatten) :: V) i) := by
  have h := s_mk (L := L) y us K V i
  rw [join_of (x := x) (y := y) (us := us) hk hy] at h
  exact h

/-- An expression at a level. -/
theorem e_at {t : List Nd} {i j n : Nat} (hn : n ≤ 5) (h : RE L t i j) (hi : isOne (Pa.sg L i) = false) (h1 : Pa.sg L j ≠ [40]) (h2 : Pa.sg L j ≠ [91]) (hl : ∀ m, n ≤ m → m < 5 → Pa.sg L j ∉ level m) : R L (.e n) t i j := by
  have key : ∀ d, n + d ≤ 5 → R L (.e (n + (5 - n - d))) t i j := by
    intro d
    induction d with
    | zero => intro _; rw [show n + (5 - n - 0) = 5 by omega]; exact e5_of h hi ⟨h1, h2⟩
    | succ d ih =>
      intro hd
      have := ih (by omega)
      rw [show n + (5 - n - d) = (n + (5 - n - (d + 1))) + 1 by omega] at this
      exact e_up (by omega) this (hl _ (by omega) (by omega))
  have := key (5 - n) (by omega)
  rwa [show n + (5 - n - (5 - n)) = n by omega] at this
theorem e_down {t : List Nd} {i j : Nat} : ∀ n, n ≤ 5 → R L (.e n) t i j → (∀ m, m < n → Pa.sg L j ∉ level m) → R L (.e 0) t i j
  | 0, _, h, _ => h
  | n + 1, hn, h, hl => e_down n (by omega) (e_up (by omega) h (hl n (Nat.lt_succ_self n))) (fun m hm => hl m (by omega))
theorem shut_level (m : Nat) : ([41] : List UInt8) ∉ level m := by
  rcases (show m = 0 ∨ m = 1 ∨ m = 2 ∨ m = 3 ∨ 4 ≤ m by omega) with rfl | rfl | rfl | rfl | h
  · decide
  · decide
  · decide
  · decide
  · obtain ⟨k, rfl⟩ : ∃ k, m = k + 4 := ⟨m - 4, by omega⟩
    show ([41] : List UInt8) ∉ [[42], [47], [37]]
    decide
theorem bin_of {x : Nd} {t u : List Nd} {a b c n : Nat} {z : List UInt8} (hn : n < 5) (hz : z ∈ level n) (h1 : R L (.e (n + 1)) t a b) (hb : Pa.sg L b = z) (h2 : R L (.e (n + 1)) u (b + 1) c) (hc : Pa.sg L c = [41]) (hk : x.kids = 2) (hx : { Pa.nd 27 with text := z } = { x with kids := 0 }) : R L (.e 0) (x :: (t ++ (u ++ []))) a c := by
  refine e_down n (by omega) (fun K V => ?_) (fun m _ => by rw [hc]; exact shut_level m)
  have s1 : one L (.e n) V a = some ([.e (n + 1), .row n], V, a) := by
    show (if n < 5 then _ else _) = _
    rw [if_pos hn]
  have s2 : one L (.row n) (t :: V) b = some (.e (n + 1) :: .mk { Pa.nd 27 with text := z } 2 :: (if n = 2 then [] else [.row n]), t :: V, b + 1) := by
    show (if Pa.sg L b ∈ level n then some (Sy.e (n + 1) :: .mk { Pa.nd 27 with text := Pa.sg L b } 2 :: (if n = 2 then [] else [.row n]), t :: V, b + 1) else _) = _
    rw [hb, if_pos hz]
  have s3 := ((to_some (A := K) s1).trans (h1 _ V)).trans (to_some (A := K) s2)
  have s4 := (s3.trans (h2 _ _)).trans (node2 hk hx _ V c)
  refine s4.trans ?_
  by_cases h : n = 2
  · rw [if_pos h]; exact To.refl _
  · rw [if_neg h]
    refine to_some (a := .row n) (B := []) ?_
    show (if Pa.sg L c ∈ level n then _ else _) = _
    rw [hc, if_neg (shut_level n)]
/-- At which level an operation stands. -/
theorem bin_level {z : List UInt8} (h : isBin z = true) : ∃ n, n < 5 ∧ z ∈ level n ∧ z ≠ [40] ∧ z ≠ [91] ∧ z ≠ [46] ∧ ∀ m, n + 1 ≤ m → m < 5 → z ∉ level m := by
  rw [isBin_iff] at h
  have key : ∀ n, n < 5 → z ∈ level n → (z ≠ [40] ∧ z ≠ [91] ∧ z ≠ [46] ∧ ∀ m, n + 1 ≤ m → m < 5 → z ∉ level m) → ∃ n, n < 5 ∧ z ∈ level n ∧ z ≠ [40] ∧ z ≠ [91] ∧ z ≠ [46] ∧ ∀ m, n + 1 ≤ m → m < 5 → z ∉ level m := fun n h1 h2 h3 => ⟨n, h1, h2, h3⟩
  have hall : ∀ y ∈ binList, (∃ n, n < 5 ∧ y ∈ level n ∧ y ≠ [40] ∧ y ≠ [91] ∧ y ≠ [46] ∧ ∀ m, m < 5 → n + 1 ≤ m → y ∉ level m) := by decide
  obtain ⟨n, h1, h2, h3, h4, h5, h6⟩ := hall z h
  exact ⟨n, h1, h2, h3, h4, h5, fun m hm hm5 => h6 m hm5 hm⟩

/-! statements in a row -/
theorem sts_of {N : Nat} (hR : Rds L N) : ∀ (n m : Nat) (l l' : List Nd) (i j : Nat), l.length < N → PL L (List.replicate n (.nd .st) ++ [sg [125]]) l l' i j → ∃ us : List (List Nd), us.length = n ∧ l = us.flatten ++ l' ∧ Pa.sg L i ≠ [101, 108, 115, 101] ∧
      ∀ K V, To L (.run (.sts m :: K) V i) (.run (.mk (Pa.nd 5) (m + n) :: K) (us.reverse ++ V) j)
  | 0, m, l, l', i, j, hl, h => by
    obtain ⟨h1, h2⟩ := h.tok
    obtain ⟨rfl, rfl⟩ := h2.nil
    have hq := h1.sgn.1
    refine ⟨[], rfl, rfl, by rw [hq]; decide, fun K V => to_some (a := .sts m) (B := [.mk (Pa.nd 5) m]) ?_⟩
    show (if Pa.sg L i = [125] then _ else _) = _
    rw [if_pos hq]; rfl
  | n + 1, m, l, l', i, j, hl, h => by
    rw [List.replicate_succ, List.cons_append] at h
    obtain ⟨l1, k, h3, h4⟩ := h.nd
    have hless := h3.less
    obtain ⟨us, u1, u2, u3, u4⟩ := sts_of hR n (m + 1) l1 l' k j (by omega) h4
    obtain ⟨t, e, ht, hne, hne2⟩ := hR .st l l1 i k hl h3
    refine ⟨t :: us, by rw [List.length_cons, u1], by rw [e, u2]; simp, hne2, fun K V => ?_⟩
    have h5 : one L (.sts m) V i = some ([.stmt, .sts (m + 1)], V, i) := by
      show (if Pa.sg L i = [125] then _ else _) = _
      rw [if_neg hne]
    have h6 := ((to_some (A := K) h5).trans (ht u3 _ _)).trans (u4 K _)
    rw [show m + 1 + n = m + (n + 1) by omega] at h6
    rw [List.reverse_cons, List.append_assoc]
    exact h6

/-! one kind after the other -/
theorem noOne {q : List UInt8} (h1 : isOne q = false) (h2 : stmtA q = none) (h3 : q ≠ [125]) (h4 : q ≠ [101, 108, 115, 101]) (h5 : q ≠ [41]) {i : Nat} (h : Pa.sg L i = q) : isOne (Pa.sg L i) = false ∧ stmtA (Pa.sg L i) = none ∧ Pa.sg L i ≠ [125] ∧ Pa.sg L i ≠ [101, 108, 115, 101] ∧ Pa.sg L i ≠ [41] := by
  rw [h]; exact ⟨h1, h2, h3, h4, h5⟩
/-- An index: what stands ahead of what follows. -/
theorem index_of {N : Nat} (hR : Rds L N) {x : Nd} (hk : x.kids = 2) (hx : Pa.nd 26 = { x with kids := 0 }) {A : List PSy} {l l' : List Nd} {i j : Nat} (hl : l.length < N) (h : PL L (.nd .ex :: sg [91] :: .nd .ex :: sg [93] :: A) l l' i j) :
    ∃ t u l1 k, l = t ++ (u ++ l1) ∧ RE L (x :: (t ++ (u ++ []))) i k ∧ PL L A l1 l' k j ∧ endW 1 (kidsOf t) = some t.length ∧ l1.length < N ∧ (isOne (Pa.sg L i) = false ∧ stmtA (Pa.sg L i) = none ∧ Pa.sg L i ≠ [125] ∧ Pa.sg L i ≠ [101, 108, 115, 101] ∧ Pa.sg L i ≠ [41]) := by
  obtain ⟨l1, k1, h1, h2⟩ := h.nd
  obtain ⟨h3, h4⟩ := h2.tok
  obtain ⟨l2, k2, h5, h6⟩ := h4.nd
  obtain ⟨h7, h8⟩ := h6.tok
  have hs1 := h1.less
  have hs2 := h5.less
  obtain ⟨t, e1, ht, hf⟩ := hR .ex l l1 i k1 hl h1
  obtain ⟨u, e2, hu, hfu⟩ := hR .ex l1 l2 (k1 + 1) k2 (by omega) h5
  have q3 := h3.sgn.1
  have q7 := h7.sgn.1
  refine ⟨t, u, l2, k2 + 1, by rw [e1, e2], fun K V => ?_, h8, pl_whole h1 e1, by omega, hf⟩
  have s1 := ht (by rw [q3]; decide) K V
  have s2 : one L .post (t :: V) k1 = some ([.e 0, .mark [93], .mk (Pa.nd 26) 2, .post], t :: V, k1 + 1) := by
    show (if Pa.sg L k1 = [40] then _ else if Pa.sg L k1 = [91] then _ else _) = _
    rw [if_neg (by rw [q3]; decide), if_pos q3]
  have s3 := e0_of (hu (by rw [q7]; decide)) hfu.1 (by rw [q7]; decide)
  exact (((s1.trans (to_some (A := K) s2)).trans (s3 _ _)).trans (s_mark q7 _ _)).trans (node2 hk hx _ V _)

end Go.Proofs.YtemlceicmpcboaaGreatDoor.Sw
namespace Go.Proofs.YtemlceicmpcboaaGreatDoor.Sw
open Lx Tr Pa

variable {L : List Tk}

set_option maxHeartbeats 2000000 in
/-- An expression. -/
theorem rd_ex {N : Nat} (hR : Rds L N) {x : Nd} {r l' : List Nd} {i j : Nat} (hl : r.length < N) (hc : isExpr x.kind = true) (hk : x.kids = ((cats (expX x)).length : Int)) (hf : fieldsP x = true) (h : PL L (expX x) r l' i j) : ∃ t, x :: r = t ++ l' ∧ RdC L .ex t i j := by
  obtain ⟨k, d, q, z, s⟩ := x
  have hkk : k = 18 ∨ k = 19 ∨ k = 20 ∨ k = 21 ∨ k = 22 ∨ k = 23 ∨ k = 24 ∨ k = 25 ∨ k = 26 ∨ k = 27 ∨ k = 28 ∨ k = 29 ∨ k = 30 := by
    have h' : isExpr k = true := hc
    unfold isExpr at h'; simp at h'; omega
  rcases hkk with rfl | rfl | rfl | rfl | rfl | rfl | rfl | rfl | rfl | rfl | rfl | rfl | rfl
  · -- nil
    obtain ⟨⟨rfl, rfl⟩, rfl⟩ : (q = [] ∧ z = 0) ∧ s = [] := by simpa [fieldsP] using hf
    change d = 0 at hk
    subst hk
    obtain ⟨h1, h2⟩ := PL.tok (A := []) h
    obtain ⟨rfl, rfl⟩ := h2.nil
    exact ⟨[_], rfl, fun _ K V => (s_prim h1 rfl _ V).trans (leaf (x := ⟨18, 0, [], 0, []⟩) (y := Pa.nd 18) rfl rfl _ V _), noOne rfl rfl (by decide) (by decide) (by decide) h1.sgn.1⟩
  · -- a number
    obtain ⟨⟨rfl, hz⟩, rfl⟩ : (q = [] ∧ 0 ≤ z) ∧ s = [] := by simpa [fieldsP] using hf
    change d = 0 at hk
    subst hk
    obtain ⟨h1, h2⟩ := PL.tok (A := []) h
    obtain ⟨rfl, rfl⟩ := h2.nil
    exact ⟨[_], rfl, fun _ K V => (s_int h1 _ V).trans (leaf (x := ⟨19, 0, [], z, []⟩) (y := { Pa.nd 19 with n := z }) rfl rfl _ V _), noOne rfl rfl (by decide) (by decide) (by decide) h1.int.2.2⟩
  · -- a text
    obtain ⟨⟨rfl, rfl⟩, hz⟩ : (q = [] ∧ z = 0) ∧ (s.length : Int) ≤ 1024 := by simpa [fieldsP] using hf
    change d = 0 at hk
    subst hk
    obtain ⟨h1, h2⟩ := PL.tok (A := []) h
    obtain ⟨rfl, rfl⟩ := h2.nil
    exact ⟨[_], rfl, fun _ K V => (s_text h1 _ V).trans (leaf (x := ⟨20, 0, [], 0, s⟩) (y := { Pa.nd 20 with text := s }) rfl rfl _ V _), noOne rfl rfl (by decide) (by decide) (by decide) h1.text.2.2⟩
  · -- a name
    obtain ⟨⟨hn, rfl⟩, rfl⟩ : (isName q = true ∧ z = 0) ∧ s = [] := by simpa [fieldsP] using hf
    change d = 0 at hk
    subst hk
    obtain ⟨h1, h2⟩ := PL.tok (A := []) h
    obtain ⟨rfl, rfl⟩ := h2.nil
    refine ⟨[_], rfl, fun hne K V => (s_name h1 _ V).trans ?_, noOne rfl rfl (by decide) (by decide) (by decide) h1.name.2.2⟩
    have s1 : one L (.outer q) V (i + 1) = some ([.mk { Pa.nd 21 with name := q } 0], V, i + 1) := by
      show (if Pa.sg L (i + 1) = [46] then _ else _) = _
      rw [if_neg hne]
    exact (to_some (A := .post :: K) s1).trans (leaf (x := ⟨21, 0, q, 0, []⟩) (y := { Pa.nd 21 with name := q }) rfl rfl _ V _)
  · -- a call
    obtain ⟨⟨rfl, rfl⟩, rfl⟩ : (q = [] ∧ z = 0) ∧ s = [] := by simpa [fieldsP] using hf
    change d = (((.ex :: cats (lstX .ex (d.toNat - 1))).length : Nat) : Int) at hk
    rw [cats_lst, List.length_cons, List.length_replicate] at hk
    obtain ⟨l1, k1, h1, h2⟩ := PL.nd (A := lstX .ex (d.toNat - 1)) h
    have hs := h1.less
    obtain ⟨t, e1, ht, hft⟩ := hR .ex r l1 i k1 hl h1
    obtain ⟨us, u1, u2, u3, u4⟩ := lst_of hR false (Pa.nd 22) (d.toNat - 1) 1 (by omega) h2
    refine ⟨⟨22, d, [], 0, []⟩ :: (t :: us).flatten, by rw [e1, u2]; simp, fun _ K V => ?_, hft⟩
    have s1 := ht (by rw [u3]; decide) K V
    have s2 : one L .post (t :: V) k1 = some ([.lF false (Pa.nd 22) 1, .post], t :: V, k1 + 1) := by
      show (if Pa.sg L k1 = [40] then _ else _) = _
      rw [if_pos u3]
    have s3 := u4 (.post :: K) (t :: V)
    have s4 : one L (.lC false (Pa.nd 22) (1 + (d.toNat - 1))) (us.reverse ++ t :: V) j = some ([.mk (Pa.nd 22) (1 + (d.toNat - 1))], us.reverse ++ t :: V, j) := rfl
    have s5 := nodeN (L := L) (x := ⟨22, d, [], 0, []⟩) (y := Pa.nd 22) (us := t :: us) (by rw [List.length_cons, u1]; exact hk) rfl (.post :: K) V j
    rw [List.length_cons, u1, List.reverse_cons, List.append_assoc, Nat.add_comm] at s5
    exact ((s1.trans (to_some (A := K) s2)).trans s3).trans ((to_some (A := .post :: K) s4).trans s5)
  · -- a call of another module's
    obtain ⟨⟨hn, rfl⟩, hn2⟩ : (isName q = true ∧ z = 0) ∧ isName s = true := by simpa [fieldsP] using hf
    change d = (((cats ([nm q, sg [46], nm s] ++ lstX .ex d.toNat)).length : Nat) : Int) at hk
    rw [cats_app, cats_lst, List.length_append, List.length_replicate] at hk
    obtain ⟨h1, h2⟩ := PL.tok (A := sg [46] :: nm s :: lstX .ex d.toNat) h
    obtain ⟨h3, h4⟩ := h2.tok
    obtain ⟨h5, h6⟩ := h4.tok
    obtain ⟨us, u1, u2, u3, u4⟩ := lst_of hR false { Pa.nd 23 with name := q, text := s } d.toNat 0 hl h6
    refine ⟨⟨23, d, q, 0, s⟩ :: us.flatten, by rw [u2]; simp, fun _ K V => ?_, noOne rfl rfl (by decide) (by decide) (by decide) h1.name.2.2⟩
    have s1 := s_name h1 (.post :: K) V
    have s2 : one L (.outer q) V (i + 1) = some ([.outN q], V, i + 1 + 1) := by
      show (if Pa.sg L (i + 1) = [46] then _ else _) = _
      rw [if_pos h3.sgn.1]
    have s3 := s_need (a := .outN q) (B := fun t => [.mark [40], .lF false { Pa.nd 23 with name := q, text := t } 0]) h5 (fun _ => rfl) (.post :: K) V
    have s4 := (((s1.trans (to_some (A := .post :: K) s2)).trans s3).trans (s_mark u3 _ V)).trans (u4 (.post :: K) V)
    have s5 : one L (.lC false { Pa.nd 23 with name := q, text := s } (0 + d.toNat)) (us.reverse ++ V) j = some ([.mk { Pa.nd 23 with name := q, text := s } (0 + d.toNat)], us.reverse ++ V, j) := rfl
    have s6 := nodeN (L := L) (x := ⟨23, d, q, 0, s⟩) (y := { Pa.nd 23 with name := q, text := s }) (us := us) (by rw [u1]; show d = _; have : (cats [nm q, sg [46], nm s]).length = 0 := rfl; omega) rfl (.post :: K) V j
    rw [u1] at s6
    rw [Nat.zero_add] at s5 s4
    exact s4.trans ((to_some (A := .post :: K) s5).trans s6)
  · -- a function
    obtain ⟨⟨rfl, rfl⟩, rfl⟩ : (q = [] ∧ z = 0) ∧ s = [] := by simpa [fieldsP] using hf
    change d = (((cats (fnX d.toNat)).length : Nat) : Int) at hk
    rw [cats_fn, List.length_append, List.length_replicate] at hk
    obtain ⟨h1, h2⟩ := PL.tok (A := fnX d.toNat) h
    obtain ⟨us, u1, u2, u3⟩ := fn_of hR (Pa.nd 24) d.toNat hl h2
    refine ⟨⟨24, d, [], 0, []⟩ :: us.flatten, by rw [u2]; simp, fun _ K V => ?_, noOne rfl rfl (by decide) (by decide) (by decide) h1.sgn.1⟩
    have e := join_of (x := ⟨24, d, [], 0, []⟩) (y := Pa.nd 24) (us := us) (by rw [u1]; exact hk) rfl
    rw [← e]
    exact (s_prim h1 rfl _ V).trans (u3 _ V)
  · -- a table
    obtain ⟨⟨rfl, rfl⟩, rfl⟩ : (q = [] ∧ z = 0) ∧ s = [] := by simpa [fieldsP] using hf
    change d = 0 at hk
    subst hk
    obtain ⟨h1, h2⟩ := PL.tok (A := [sg [125]]) h
    obtain ⟨h3, h4⟩ := h2.tok
    obtain ⟨rfl, rfl⟩ := h4.nil
    exact ⟨[_], rfl, fun _ K V => ((s_prim h1 rfl _ V).trans (s_mark h3.sgn.1 _ V)).trans (leaf (x := ⟨25, 0, [], 0, []⟩) (y := Pa.nd 25) rfl rfl _ V _), noOne rfl rfl (by decide) (by decide) (by decide) h1.sgn.1⟩
  · -- an index
    obtain ⟨⟨rfl, rfl⟩, rfl⟩ : (q = [] ∧ z = 0) ∧ s = [] := by simpa [fieldsP] using hf
    change d = 2 at hk
    subst hk
    obtain ⟨t, u, l1, k1, e, he, h2, -, -, hfc⟩ := index_of (A := []) hR (x := ⟨26, 2, [], 0, []⟩) rfl rfl hl h
    obtain ⟨rfl, rfl⟩ := h2.nil
    exact ⟨_, by rw [e]; simp, fun _ => he, hfc⟩
  · -- two operands
    obtain ⟨⟨rfl, rfl⟩, hb⟩ : (q = [] ∧ z = 0) ∧ isBin s = true := by simpa [fieldsP] using hf
    change d = 2 at hk
    subst hk
    obtain ⟨h1, h2⟩ := PL.tok (A := [.nd .ex, sg s, .nd .ex, sg [41]]) h
    obtain ⟨l1, k1, h3, h4⟩ := h2.nd
    obtain ⟨h5, h6⟩ := h4.tok
    obtain ⟨l2, k2, h7, h8⟩ := h6.nd
    obtain ⟨h9, h10⟩ := h8.tok
    obtain ⟨rfl, rfl⟩ := h10.nil
    have hs1 := h3.less
    obtain ⟨t, e1, ht, hft⟩ := hR .ex r l1 (i + 1) k1 hl h3
    obtain ⟨u, e2, hu, hfu⟩ := hR .ex l1 l2 (k1 + 1) k2 (by omega) h7
    obtain ⟨n, n1, n2, n3, n4, n5, n6⟩ := bin_level hb
    have q5 := h5.sgn.1
    have q9 := h9.sgn.1
    have r1 := e_at (n := n + 1) (by omega) (ht (by rw [q5]; exact n5)) hft.1 (by rw [q5]; exact n3) (by rw [q5]; exact n4) (fun m h1 h2 => by rw [q5]; exact n6 m h1 h2)
    have r2 := e_at (n := n + 1) (by omega) (hu (by rw [q9]; decide)) hfu.1 (by rw [q9]; decide) (by rw [q9]; decide) (fun m _ _ => by rw [q9]; exact shut_level m)
    have r3 := bin_of (x := ⟨27, 2, [], 0, s⟩) n1 n2 r1 q5 r2 q9 rfl rfl
    exact ⟨_, by rw [e1, e2]; simp, fun _ K V => ((s_prim h1 rfl _ V).trans (r3 _ V)).trans (s_mark q9 _ _), noOne rfl rfl (by decide) (by decide) (by decide) h1.sgn.1⟩
  · -- one operand
    obtain ⟨⟨rfl, rfl⟩, hb⟩ : (q = [] ∧ z = 0) ∧ isUn s = true := by simpa [fieldsP] using hf
    change d = 1 at hk
    subst hk
    obtain ⟨h1, h2⟩ := PL.tok (A := [sg s, .nd .ex, sg [41]]) h
    obtain ⟨h3, h4⟩ := h2.tok
    obtain ⟨l1, k1, h5, h6⟩ := h4.nd
    obtain ⟨h7, h8⟩ := h6.tok
    obtain ⟨rfl, rfl⟩ := h8.nil
    obtain ⟨t, e1, ht, hft⟩ := hR .ex r l1 (i + 1 + 1) k1 hl h5
    have q3 := h3.sgn.1
    have q7 := h7.sgn.1
    have hun : ∀ y ∈ unList, y ≠ [115, 112, 97, 119, 110] ∧ y ∈ ([[45], [110, 111, 116], [108, 101, 110]] : List (List UInt8)) := by decide
    obtain ⟨g1, g2⟩ := hun s ((isUn_iff s).1 hb)
    have r1 := e5_of (ht (by rw [q7]; decide)) hft.1 ⟨by rw [q7]; decide, by rw [q7]; decide⟩
    have r2 : R L (.e 5) (⟨28, 1, [], 0, s⟩ :: (t ++ [])) (i + 1) k1 := fun K V => by
      have s1 : one L (.e 5) V (i + 1) = some ([.e 5, .mk { Pa.nd 28 with text := s } 1], V, i + 1 + 1) := by
        show (if 5 < 5 then some ([Sy.e 6, .row 5], V, i + 1) else if Pa.sg L (i + 1) = [115, 112, 97, 119, 110] then some ([.e 5, .mk (Pa.nd 30) 1], V, i + 1 + 1) else if Pa.sg L (i + 1) ∈ ([[45], [110, 111, 116], [108, 101, 110]] : List (List UInt8)) then some ([.e 5, .mk { Pa.nd 28 with text := Pa.sg L (i + 1) } 1], V, i + 1 + 1) else some ([.prim, .post], V, i + 1)) = _
        rw [if_neg (by decide), if_neg (by rw [q3]; exact g1), if_pos (by rw [q3]; exact g2), q3]
      exact ((to_some (A := K) s1).trans (r1 _ V)).trans (node1 (x := ⟨28, 1, [], 0, s⟩) (y := { Pa.nd 28 with text := s }) rfl rfl K V _)
    have r3 := e_down 5 (Nat.le_refl _) r2 (fun m _ => by rw [q7]; exact shut_level m)
    exact ⟨_, by rw [e1]; simp, fun _ K V => ((s_prim h1 rfl _ V).trans (r3 _ V)).trans (s_mark q7 _ _), noOne rfl rfl (by decide) (by decide) (by decide) h1.sgn.1⟩
  · -- the state
    obtain ⟨⟨rfl, rfl⟩, rfl⟩ : (q = [] ∧ z = 0) ∧ s = [] := by simpa [fieldsP] using hf
    change d = 0 at hk
    subst hk
    obtain ⟨h1, h2⟩ := PL.tok (A := []) h
    obtain ⟨rfl, rfl⟩ := h2.nil
    exact ⟨[_], rfl, fun _ K V => (s_prim h1 rfl _ V).trans (leaf (x := ⟨29, 0, [], 0, []⟩) (y := Pa.nd 29) rfl rfl _ V _), noOne rfl rfl (by decide) (by decide) (by decide) h1.sgn.1⟩
  · -- spawn
    obtain ⟨⟨rfl, rfl⟩, rfl⟩ : (q = [] ∧ z = 0) ∧ s = [] := by simpa [fieldsP] using hf
    change d = 1 at hk
    subst hk
    obtain ⟨h1, h2⟩ := PL.tok (A := [sg [115, 112, 97, 119, 110], .nd .ex, sg [41]]) h
    obtain ⟨h3, h4⟩ := h2.tok
    obtain ⟨l1, k1, h5, h6⟩ := h4.nd
    obtain ⟨h7, h8⟩ := h6.tok
    obtain ⟨rfl, rfl⟩ := h8.nil
    obtain ⟨t, e1, ht, hft⟩ := hR .ex r l1 (i + 1 + 1) k1 hl h5
    have q3 := h3.sgn.1
    have q7 := h7.sgn.1
    have r1 := e5_of (ht (by rw [q7]; decide)) hft.1 ⟨by rw [q7]; decide, by rw [q7]; decide⟩
    have r2 : R L (.e 5) (⟨30, 1, [], 0, []⟩ :: (t ++ [])) (i + 1) k1 := fun K V => by
      have s1 : one L (.e 5) V (i + 1) = some ([.e 5, .mk (Pa.nd 30) 1], V, i + 1 + 1) := by
        show (if 5 < 5 then some ([Sy.e 6, .row 5], V, i + 1) else if Pa.sg L (i + 1) = [115, 112, 97, 119, 110] then some ([.e 5, .mk (Pa.nd 30) 1], V, i + 1 + 1) else _) = _
        rw [if_neg (by decide), if_pos q3]
      exact ((to_some (A := K) s1).trans (r1 _ V)).trans (node1 (x := ⟨30, 1, [], 0, []⟩) (y := Pa.nd 30) rfl rfl K V _)
    have r3 := e_down 5 (Nat.le_refl _) r2 (fun m _ => by rw [q7]; exact shut_level m)
    exact ⟨_, by rw [e1]; simp, fun _ K V => ((s_prim h1 rfl _ V).trans (r3 _ V)).trans (s_mark q7 _ _), noOne rfl rfl (by decide) (by decide) (by decide) h1.sgn.1⟩

end Go.Proofs.YtemlceicmpcboaaGreatDoor.Sw
namespace Go.Proofs.YtemlceicmpcboaaGreatDoor.Sw
open Lx Tr Pa

variable {L : List Tk}

theorem noSt {q : List UInt8} (h3 : q ≠ [125]) (h4 : q ≠ [101, 108, 115, 101]) {i : Nat} (h : Pa.sg L i = q) : Pa.sg L i ≠ [125] ∧ Pa.sg L i ≠ [101, 108, 115, 101] := by rw [h]; exact ⟨h3, h4⟩
/-- An expression and what follows it. -/
theorem ex_then {N : Nat} (hR : Rds L N) {q : List UInt8} (hq : goesOn q = false) (hq2 : q ≠ [46]) {A : List PSy} {l l' : List Nd} {i j : Nat} (hl : l.length < N) (h : PL L (.nd .ex :: sg q :: A) l l' i j) :
    ∃ t l1 k, l = t ++ l1 ∧ R L (.e 0) t i k ∧ Pa.sg L k = q ∧ PL L A l1 l' (k + 1) j ∧ l1.length < N ∧ stmtA (Pa.sg L i) = none ∧ Pa.sg L i ≠ [125] ∧ Pa.sg L i ≠ [101, 108, 115, 101] := by
  obtain ⟨l1, k, h1, h2⟩ := h.nd
  obtain ⟨h3, h4⟩ := h2.tok
  have hs := h1.less
  obtain ⟨t, e, ht, hf⟩ := hR .ex l l1 i k hl h1
  have q3 := h3.sgn.1
  exact ⟨t, l1, k, e, e0_of (ht (by rw [q3]; exact hq2)) hf.1 (by rw [q3]; exact hq), q3, h4, by omega, hf.2.1, hf.2.2.1, hf.2.2.2.1⟩
theorem ex_blk {N : Nat} (hR : Rds L N) {A : List PSy} {l l' : List Nd} {i j : Nat} (hl : l.length < N) (h : PL L (.nd .ex :: .nd .blk :: A) l l' i j) :
    ∃ t u l1 k1 k, l = t ++ (u ++ l1) ∧ R L (.e 0) t i k1 ∧ R L .blk u k1 k ∧ PL L A l1 l' k j ∧ l1.length < N := by
  obtain ⟨l1, k1, h1, h2⟩ := h.nd
  obtain ⟨l2, k2, h3, h4⟩ := h2.nd
  have hs := h1.less
  have hs2 := h3.less
  obtain ⟨t, e, ht, hf⟩ := hR .ex l l1 i k1 hl h1
  obtain ⟨u, e2, hu, q3⟩ := hR .blk l1 l2 k1 k2 (by omega) h3
  exact ⟨t, u, l2, k1, k2, by rw [e, e2], e0_of (ht (by rw [q3]; decide)) hf.1 (by rw [q3]; decide), hu, h4, by omega⟩
/-- A statement of a key and one expression. -/
theorem key_ex {N : Nat} (hR : Rds L N) {x : Nd} {q : List UInt8} (hA : stmtA q = some [.e 0, .mark [59], .mk { x with kids := 0 } 1]) (hk : x.kids = 1) (h3 : q ≠ [125]) (h4 : q ≠ [101, 108, 115, 101]) {l l' : List Nd} {i j : Nat} (hl : l.length < N) (h : PL L [sg q, .nd .ex, sg [59]] l l' i j) :
    ∃ t, x :: l = t ++ l' ∧ RdC L .st t i j := by
  obtain ⟨h1, h2⟩ := h.tok
  obtain ⟨t, l1, k, e, ht, hq, h5, -⟩ := ex_then hR (by decide) (by decide) hl h2
  obtain ⟨rfl, rfl⟩ := h5.nil
  exact ⟨x :: (t ++ []), by rw [e]; simp, fun _ K V => ((s_stmt (by rw [h1.sgn.1]; exact hA) K V).trans (ht _ V)).trans ((s_mark hq _ _).trans (node1 (x := x) hk rfl K V _)), noSt h3 h4 h1.sgn.1⟩
theorem key_one {x : Nd} {q : List UInt8} (hA : stmtA q = some [.mark [59], .mk { x with kids := 0 } 0]) (hk : x.kids = 0) (h3 : q ≠ [125]) (h4 : q ≠ [101, 108, 115, 101]) {l l' : List Nd} {i j : Nat} (h : PL L [sg q, sg [59]] l l' i j) :
    ∃ t, x :: l = t ++ l' ∧ RdC L .st t i j := by
  obtain ⟨h1, h2⟩ := h.tok
  obtain ⟨h5, h6⟩ := h2.tok
  obtain ⟨rfl, rfl⟩ := h6.nil
  exact ⟨[x], rfl, fun _ K V => (s_stmt (by rw [h1.sgn.1]; exact hA) K V).trans ((s_mark h5.sgn.1 _ _).trans (leaf (x := x) hk rfl K V _)), noSt h3 h4 h1.sgn.1⟩

set_option maxHeartbeats 2000000 in
/-- A statement. -/
theorem rd_st {N : Nat} (hR : Rds L N) {x : Nd} {r l' : List Nd} {i j : Nat} (hl : r.length < N) (hc : isStmt x.kind = true) (hk : x.kids = ((cats (expX x)).length : Int)) (hf : fieldsP x = true) (h : PL L (expX x) r l' i j) : ∃ t, x :: r = t ++ l' ∧ RdC L .st t i j := by
  obtain ⟨k, d, q, z, s⟩ := x
  have hkk : k = 6 ∨ k = 7 ∨ k = 8 ∨ k = 9 ∨ k = 10 ∨ k = 11 ∨ k = 12 ∨ k = 13 ∨ k = 14 ∨ k = 15 ∨ k = 16 ∨ k = 17 := by
    have h' : isStmt k = true := hc
    unfold isStmt at h'; simp at h'; omega
  rcases hkk with rfl | rfl | rfl | rfl | rfl | rfl | rfl | rfl | rfl | rfl | rfl | rfl
  · -- let
    obtain ⟨⟨hn, rfl⟩, rfl⟩ : (isName q = true ∧ z = 0) ∧ s = [] := by simpa [fieldsP] using hf
    change d = 1 at hk
    subst hk
    obtain ⟨h1, h2⟩ := PL.tok (A := [nm q, sg [61], .nd .ex, sg [59]]) h
    obtain ⟨h3, h4⟩ := h2.tok
    obtain ⟨h5, h6⟩ := h4.tok
    obtain ⟨t, l1, k, e, ht, hq, h7, -⟩ := ex_then hR (by decide) (by decide) hl h6
    obtain ⟨rfl, rfl⟩ := h7.nil
    refine ⟨⟨6, 1, q, 0, []⟩ :: (t ++ []), by rw [e]; simp, fun _ K V => ?_, noSt (by decide) (by decide) h1.sgn.1⟩
    have s1 := s_stmt (L := L) (A := [.letN]) (i := i) (by rw [h1.sgn.1]; rfl) K V
    have s2 := s_need (a := .letN) (B := fun t => [.mark [61], .e 0, .mark [59], .mk { Pa.nd 6 with name := t } 1]) h3 (fun _ => rfl) K V
    exact (((s1.trans s2).trans (s_mark h5.sgn.1 _ V)).trans (ht _ V)).trans ((s_mark hq _ _).trans (node1 (x := ⟨6, 1, q, 0, []⟩) (y := { Pa.nd 6 with name := q }) rfl rfl K V _))
  · -- assign
    obtain ⟨⟨hn, rfl⟩, rfl⟩ : (isName q = true ∧ z = 0) ∧ s = [] := by simpa [fieldsP] using hf
    change d = 1 at hk
    subst hk
    obtain ⟨h1, h2⟩ := PL.tok (A := [sg [61], .nd .ex, sg [59]]) h
    obtain ⟨h3, h4⟩ := h2.tok
    obtain ⟨t, l1, k, e, ht, hq, h7, -⟩ := ex_then hR (by decide) (by decide) hl h4
    obtain ⟨rfl, rfl⟩ := h7.nil
    have q1 := h1.name.2.2
    have q3 := h3.sgn.1
    refine ⟨⟨7, 1, q, 0, []⟩ :: (t ++ []), by rw [e]; simp, fun _ K V => ?_, noSt (by decide) (by decide) q1⟩
    have re : RE L [⟨21, 0, q, 0, []⟩] i (i + 1) := fun K V => by
      have s1 : one L (.outer q) V (i + 1) = some ([.mk { Pa.nd 21 with name := q } 0], V, i + 1) := by
        show (if Pa.sg L (i + 1) = [46] then _ else _) = _
        rw [if_neg (by rw [q3]; decide)]
      exact ((s_name h1 _ V).trans (to_some (A := .post :: K) s1)).trans (leaf (x := ⟨21, 0, q, 0, []⟩) (y := { Pa.nd 21 with name := q }) rfl rfl _ V _)
    have r0 := e0_of re (by rw [q1]; rfl) (by rw [q3]; decide)
    have s2 : one L .asg ([⟨21, 0, q, 0, []⟩] :: V) (i + 1) = some ([.e 0, .mark [59], .mk { Pa.nd 7 with name := q } 1], V, i + 1 + 1) := by
      simp only [one]
      rw [if_pos q3]
      rfl
    exact (((s_stmt_no (by rw [q1]; rfl) K V).trans (r0 _ V)).trans (to_some (A := K) s2)).trans ((ht _ V).trans ((s_mark hq _ _).trans (node1 (x := ⟨7, 1, q, 0, []⟩) (y := { Pa.nd 7 with name := q }) rfl rfl K V _)))
  · -- store
    obtain ⟨⟨rfl, rfl⟩, rfl⟩ : (q = [] ∧ z = 0) ∧ s = [] := by simpa [fieldsP] using hf
    change d = 3 at hk
    subst hk
    obtain ⟨t, u, l1, k1, e, he, h2, hw, hl1, hfc⟩ := index_of (A := [sg [61], .nd .ex, sg [59]]) hR (x := ⟨26, 2, [], 0, []⟩) rfl rfl hl h
    obtain ⟨h3, h4⟩ := h2.tok
    obtain ⟨v, l2, k2, e2, hv, hq, h7, -⟩ := ex_then hR (by decide) (by decide) hl1 h4
    obtain ⟨rfl, rfl⟩ := h7.nil
    have q3 := h3.sgn.1
    refine ⟨⟨8, 3, [], 0, []⟩ :: (t ++ (u ++ (v ++ []))), by rw [e, e2]; simp, fun _ K V => ?_, hfc.2.2.1, hfc.2.2.2.1⟩
    have r0 := e0_of he hfc.1 (by rw [q3]; decide)
    have hz : firstZ (t ++ (u ++ [])) = t.length := by
      unfold firstZ
      have : kidsOf (t ++ (u ++ [])) = kidsOf t ++ kidsOf (u ++ []) := by simp [kidsOf]
      rw [this, endW_app _ _ _ _ hw]; rfl
    have s2 : one L .asg ((⟨26, 2, [], 0, []⟩ :: (t ++ (u ++ []))) :: V) k1 = some ([.e 0, .mark [59], .mk (Pa.nd 8) 3], u :: t :: V, k1 + 1) := by
      simp only [one]
      rw [if_pos q3]
      show some ([Sy.e 0, .mark [59], .mk (Pa.nd 8) 3], (t ++ (u ++ [])).drop (firstZ (t ++ (u ++ []))) :: (t ++ (u ++ [])).take (firstZ (t ++ (u ++ []))) :: V, k1 + 1) = _
      rw [hz, List.drop_left, List.take_left, List.append_nil]
    exact (((s_stmt_no hfc.2.1 K V).trans (r0 _ V)).trans (to_some (A := K) s2)).trans ((hv _ _).trans ((s_mark hq _ _).trans (node3 (x := ⟨8, 3, [], 0, []⟩) (y := Pa.nd 8) rfl rfl K V _)))
  · -- if
    obtain ⟨⟨rfl, rfl⟩, rfl⟩ : (q = [] ∧ z = 0) ∧ s = [] := by simpa [fieldsP] using hf
    change PL L ([sg [105, 102], .nd .ex, .nd .blk] ++ (if 2 < d then [sg [101, 108, 115, 101], .nd .blk] else [])) r l' i j at h
    change d = (((cats ([sg [105, 102], .nd .ex, .nd .blk] ++ (if 2 < d then [sg [101, 108, 115, 101], .nd .blk] else []))).length : Nat) : Int) at hk
    by_cases h2d : 2 < d
    · rw [if_pos h2d] at h hk
      change d = 3 at hk
      obtain ⟨h1, h2⟩ := PL.tok (A := [.nd .ex, .nd .blk, sg [101, 108, 115, 101], .nd .blk]) h
      obtain ⟨t, u, l1, k1, k2, e, ht, hu, h3, hl1⟩ := ex_blk hR hl h2
      obtain ⟨h4, h5⟩ := h3.tok
      obtain ⟨l2, k3, h6, h7⟩ := h5.nd
      obtain ⟨rfl, rfl⟩ := h7.nil
      obtain ⟨v, e2, hv, -⟩ := hR .blk l1 _ (k2 + 1) k3 hl1 h6
      refine ⟨⟨9, d, [], 0, []⟩ :: (t ++ (u ++ (v ++ []))), by rw [e, e2]; simp, fun _ K V => ?_, noSt (by decide) (by decide) h1.sgn.1⟩
      have s1 := s_stmt (L := L) (A := [.e 0, .blk, .els]) (i := i) (by rw [h1.sgn.1]; rfl) K V
      have s2 : one L .els (u :: t :: V) k2 = some ([.blk, .mk (Pa.nd 9) 3], u :: t :: V, k2 + 1) := by
        show (if Pa.sg L k2 = [101, 108, 115, 101] then _ else _) = _
        rw [if_pos h4.sgn.1]
      exact (((s1.trans (ht _ V)).trans (hu _ _)).trans (to_some (A := K) s2)).trans ((hv _ _).trans (node3 (x := ⟨9, d, [], 0, []⟩) (y := Pa.nd 9) hk rfl K V _))
    · rw [if_neg h2d] at h hk
      change d = 2 at hk
      obtain ⟨h1, h2⟩ := PL.tok (A := [.nd .ex, .nd .blk]) h
      obtain ⟨t, u, l1, k1, k2, e, ht, hu, h3, hl1⟩ := ex_blk hR hl h2
      obtain ⟨rfl, rfl⟩ := h3.nil
      refine ⟨⟨9, d, [], 0, []⟩ :: (t ++ (u ++ [])), by rw [e]; simp, fun hne K V => ?_, noSt (by decide) (by decide) h1.sgn.1⟩
      have s1 := s_stmt (L := L) (A := [.e 0, .blk, .els]) (i := i) (by rw [h1.sgn.1]; rfl) K V
      have s2 : one L .els (u :: t :: V) k2 = some ([.mk (Pa.nd 9) 2], u :: t :: V, k2) := by
        show (if Pa.sg L k2 = [101, 108, 115, 101] then _ else _) = _
        rw [if_neg hne]
      exact (((s1.trans (ht _ V)).trans (hu _ _)).trans (to_some (A := K) s2)).trans (node2 (x := ⟨9, d, [], 0, []⟩) (y := Pa.nd 9) hk rfl K V _)
  · -- while
    obtain ⟨⟨rfl, rfl⟩, rfl⟩ : (q = [] ∧ z = 0) ∧ s = [] := by simpa [fieldsP] using hf
    change d = 2 at hk
    subst hk
    obtain ⟨h1, h2⟩ := PL.tok (A := [.nd .ex, .nd .blk]) h
    obtain ⟨t, u, l1, k1, k2, e, ht, hu, h3, hl1⟩ := ex_blk hR hl h2
    obtain ⟨rfl, rfl⟩ := h3.nil
    refine ⟨⟨10, 2, [], 0, []⟩ :: (t ++ (u ++ [])), by rw [e]; simp, fun hne K V => ?_, noSt (by decide) (by decide) h1.sgn.1⟩
    have s1 := s_stmt (L := L) (A := [.e 0, .blk, .mk (Pa.nd 10) 2]) (i := i) (by rw [h1.sgn.1]; rfl) K V
    exact ((s1.trans (ht _ V)).trans (hu _ _)).trans (node2 (x := ⟨10, 2, [], 0, []⟩) (y := Pa.nd 10) rfl rfl K V _)
  · obtain ⟨⟨rfl, rfl⟩, rfl⟩ : (q = [] ∧ z = 0) ∧ s = [] := by simpa [fieldsP] using hf
    exact key_one (x := ⟨11, d, [], 0, []⟩) rfl hk (by decide) (by decide) h
  · obtain ⟨⟨rfl, rfl⟩, rfl⟩ : (q = [] ∧ z = 0) ∧ s = [] := by simpa [fieldsP] using hf
    exact key_one (x := ⟨12, d, [], 0, []⟩) rfl hk (by decide) (by decide) h
  · obtain ⟨⟨rfl, rfl⟩, rfl⟩ : (q = [] ∧ z = 0) ∧ s = [] := by simpa [fieldsP] using hf
    exact key_ex hR (x := ⟨13, d, [], 0, []⟩) rfl hk (by decide) (by decide) hl h
  · obtain ⟨⟨rfl, rfl⟩, rfl⟩ : (q = [] ∧ z = 0) ∧ s = [] := by simpa [fieldsP] using hf
    exact key_ex hR (x := ⟨14, d, [], 0, []⟩) rfl hk (by decide) (by decide) hl h
  · obtain ⟨⟨rfl, rfl⟩, rfl⟩ : (q = [] ∧ z = 0) ∧ s = [] := by simpa [fieldsP] using hf
    exact key_ex hR (x := ⟨15, d, [], 0, []⟩) rfl hk (by decide) (by decide) hl h
  · obtain ⟨⟨rfl, rfl⟩, rfl⟩ : (q = [] ∧ z = 0) ∧ s = [] := by simpa [fieldsP] using hf
    exact key_one (x := ⟨16, d, [], 0, []⟩) rfl hk (by decide) (by decide) h
  · -- do
    obtain ⟨⟨rfl, rfl⟩, rfl⟩ : (q = [] ∧ z = 0) ∧ s = [] := by simpa [fieldsP] using hf
    change d = 1 at hk
    subst hk
    obtain ⟨t, l1, k, e, ht, hq, h7, -, hst, hne⟩ := ex_then (A := []) hR (by decide) (by decide) hl h
    obtain ⟨rfl, rfl⟩ := h7.nil
    refine ⟨⟨17, 1, [], 0, []⟩ :: (t ++ []), by rw [e]; simp, fun _ K V => ?_, hne⟩
    have s2 : one L .asg (t :: V) k = some ([.mark [59], .mk (Pa.nd 17) 1], t :: V, k) := by
      simp only [one]
      rw [if_neg (by rw [hq]; decide)]
    exact (((s_stmt_no hst K V).trans (ht _ V)).trans (to_some (A := K) s2)).trans ((s_mark hq _ _).trans (node1 (x := ⟨17, 1, [], 0, []⟩) (y := Pa.nd 17) rfl rfl K V _))

/-- All of them. -/
theorem rds_all : ∀ N, Rds L N
  | 0, _, _, _, _, _, hl, _ => absurd hl (Nat.not_lt_zero _)
  | N + 1, c, l, l', i, j, hl, h => by
    have hR := rds_all N
    obtain ⟨x, r, rfl, hc, hk, hf, h1⟩ := h.node
    have hr : r.length < N := by rw [List.length_cons] at hl; omega
    cases c with
    | ex => exact rd_ex hR hr hc hk hf h1
    | st => exact rd_st hR hr hc hk hf h1
    | mod =>
      obtain ⟨ts, h2, -, -⟩ := h
      obtain ⟨n, -, h3⟩ := h2.ends
      exact ⟨(x :: r).take n, by rw [h3, List.take_append_drop], trivial⟩
    | blk =>
      obtain ⟨k, d, q, z, s⟩ := x
      obtain rfl : k = 5 := eq_of_beq (show (k == 5) = true from hc)
      obtain ⟨⟨rfl, rfl⟩, rfl⟩ : (q = [] ∧ z = 0) ∧ s = [] := by simpa [fieldsP] using hf
      change PL L (sg [123] :: (List.replicate d.toNat (.nd .st) ++ [sg [125]])) r l' i j at h1
      change d = (((cats (List.replicate d.toNat (.nd .st) ++ [sg [125]])).length : Nat) : Int) at hk
      rw [cats_app, cats_rep, List.length_append, List.length_replicate] at hk
      obtain ⟨h2, h3⟩ := h1.tok
      obtain ⟨us, u1, u2, -, u4⟩ := sts_of hR d.toNat 0 r l' (i + 1) j hr h3
      refine ⟨⟨5, d, [], 0, []⟩ :: us.flatten, by rw [u2]; simp, fun K V => ?_, h2.sgn.1⟩
      have s1 : one L .blk V i = some ([.mark [123], .sts 0], V, i) := rfl
      have s2 := ((to_some (A := K) s1).trans (s_mark h2.sgn.1 _ V)).trans (u4 K V)
      have s3 := nodeN (L := L) (x := ⟨5, d, [], 0, []⟩) (y := Pa.nd 5) (us := us) (by rw [u1]; exact hk) rfl K V j
      rw [u1] at s3
      rw [Nat.zero_add] at s2
      exact s2.trans s3
    | par =>
      obtain ⟨k, d, q, z, s⟩ := x
      obtain rfl : k = 4 := eq_of_beq (show (k == 4) = true from hc)
      obtain ⟨⟨hn, rfl⟩, rfl⟩ : (isName q = true ∧ z = 0) ∧ s = [] := by simpa [fieldsP] using hf
      change d = 0 at hk
      subst hk
      obtain ⟨h2, h3⟩ := PL.tok (A := []) h1
      obtain ⟨rfl, rfl⟩ := h3.nil
      refine ⟨[⟨4, 0, q, 0, []⟩], rfl, fun K V => ?_, by rw [h2.name.2.2]; decide⟩
      exact (s_need (a := .par) (B := fun t => [.mk { Pa.nd 4 with name := t } 0]) h2 (fun _ => rfl) K V).trans (leaf (x := ⟨4, 0, q, 0, []⟩) (y := { Pa.nd 4 with name := q }) rfl rfl K V _)
    | part =>
      obtain ⟨k, d, q, z, s⟩ := x
      have hkk : k = 2 ∨ k = 3 := by
        have h' : (k == 2 || k == 3) = true := hc
        rwa [Bool.or_eq_true, beq_iff_eq, beq_iff_eq] at h'
      rcases hkk with rfl | rfl
      · obtain ⟨⟨⟨hn, hz⟩, hz2⟩, hn2⟩ : ((isName q = true ∧ 0 ≤ z) ∧ z ≤ 8) ∧ isName s = true := by simpa [fieldsP] using hf
        change d = 0 at hk
        subst hk
        obtain ⟨h2, h3⟩ := PL.tok (A := [nm q, sg [46], nm s, sg [47], it z, sg [59]]) h1
        obtain ⟨h4, h5⟩ := h3.tok
        obtain ⟨h6, h7⟩ := h5.tok
        obtain ⟨h8, h9⟩ := h7.tok
        obtain ⟨h10, h11⟩ := h9.tok
        obtain ⟨h12, h13⟩ := h11.tok
        obtain ⟨h14, h15⟩ := h13.tok
        obtain ⟨rfl, rfl⟩ := h15.nil
        refine ⟨[⟨2, 0, q, z, s⟩], rfl, fun _ => ⟨h2.sgn.1, fun K V => ?_⟩, fun h0 => absurd h0 (by show ¬(2 : Int) = 3; decide)⟩
        have s1 := s_need (a := .useN) (B := fun t => [.mark [46], .useM t]) h4 (fun _ => rfl) K V
        have s2 := s_need (a := .useM q) (B := fun t => [.mark [47], .useI q t]) h8 (fun _ => rfl) K V
        have s3 := s_need2 (a := .useI q s) (B := fun n => [.mark [59], .mk { Pa.nd 2 with name := q, text := s, n := n } 0]) h12 (fun _ => rfl) K V
        exact (((((s1.trans (s_mark h6.sgn.1 _ V)).trans s2).trans (s_mark h10.sgn.1 _ V)).trans s3).trans (s_mark h14.sgn.1 _ V)).trans (leaf (x := ⟨2, 0, q, z, s⟩) (y := { Pa.nd 2 with name := q, text := s, n := z }) rfl rfl K V _)
      · obtain ⟨⟨hn, rfl⟩, rfl⟩ : (isName q = true ∧ z = 0) ∧ s = [] := by simpa [fieldsP] using hf
        change PL L (sg [102, 110] :: nm q :: fnX d.toNat) r l' i j at h1
        change d = (((cats (fnX d.toNat)).length : Nat) : Int) at hk
        rw [cats_fn, List.length_append, List.length_replicate] at hk
        obtain ⟨h2, h3⟩ := h1.tok
        obtain ⟨h4, h5⟩ := h3.tok
        obtain ⟨us, u1, u2, u3⟩ := fn_of hR { Pa.nd 3 with name := q } d.toNat hr h5
        refine ⟨⟨3, d, q, 0, []⟩ :: us.flatten, by rw [u2]; simp, fun h0 => absurd h0 (by show ¬(3 : Int) = 2; decide), fun _ => ⟨h2.sgn.1, fun K V => ?_⟩⟩
        have e := join_of (x := ⟨3, d, q, 0, []⟩) (y := { Pa.nd 3 with name := q }) (us := us) (by rw [u1]; exact hk) rfl
        rw [← e]
        exact (s_need (a := .funN) (B := fun t => [.fn { Pa.nd 3 with name := t }]) h4 (fun _ => rfl) K V).trans (u3 _ V)

/-! a module -/
theorem headsW : ∀ (ks : List (List Nd)) (a : List Nd), (∀ t ∈ ks, endW 1 (kidsOf t) = some t.length) → (List.range ks.length).map (fun j => kindAt (a ++ ks.flatten) ((pos (kidsOf (a ++ ks.flatten)) a.length j : Nat) : Int)) = ks.map headK
  | [], a, _ => rfl
  | t :: ks, a, h => by
    have ht := h t (List.mem_cons_self ..)
    have hpos : 0 < t.length := by have := (endW_le _ _ _ ht).1; omega
    have e : a ++ (t :: ks).flatten = (a ++ t) ++ ks.flatten := by simp
    have ht' : endW 1 (kidsOf t) = some (kidsOf t).length := by rw [kidsOf_len]; exact ht
    have hsz : sz (kidsOf (a ++ (t :: ks).flatten)) a.length = t.length := by
      have := sz_mid (a := kidsOf a) (b := kidsOf ks.flatten) ht' (i := 0) (by rw [kidsOf_len]; exact hpos)
      rw [kidsOf_len] at this
      rw [e, kidsOf_app, kidsOf_app]
      rw [show a.length = a.length + 0 from rfl, this]
      unfold sz
      rw [List.drop_zero, ht]; rfl
    have ih := headsW ks (a ++ t) (fun u hu => h u (List.mem_cons_of_mem _ hu))
    rw [List.length_cons, List.range_succ_eq_map, List.map_cons, List.map_map, List.map_cons]
    congr 1
    · show kindAt _ ((a.length : Nat) : Int) = kindAt t 0
      unfold kindAt
      rw [show ((a.length : Nat) : Int).toNat = a.length by omega, e, List.getD_eq_getElem?_getD, List.getD_eq_getElem?_getD, List.append_assoc, List.getElem?_append_right (Nat.le_refl _), Nat.sub_self, List.getElem?_append_left hpos]
      rfl
    · rw [← ih]
      apply List.map_congr_left
      intro j _
      show kindAt _ ((pos _ a.length (j + 1) : Nat) : Int) = _
      rw [pos_shift, hsz, e, List.length_append]
theorem kindsL_joinW {x : Nd} {ks : List (List Nd)} (h : ∀ t ∈ ks, endW 1 (kidsOf t) = some t.length) : kindsL (join x ks) 0 = ks.map headK := by
  have hw : endW 1 ((kidsOf (join x ks)).drop 0) = some (join x ks).length := by
    rw [List.drop_zero]
    show endW (0 + 1) ((ks.length : Int) :: kidsOf ks.flatten) = some (ks.flatten.length + 1)
    rw [endW_cons, if_neg (by omega), Nat.zero_add, Int.toNat_natCast, whole_many ks h]
    rfl
  have hk : (kidsOf (join x ks))[0]? = some (ks.length : Int) := rfl
  unfold kindsL
  rw [show (0 : Int) = ((0 : Nat) : Int) from rfl, kidsZ_some hw hk]
  unfold posZ
  rw [List.map_map, List.map_map, Int.toNat_natCast]
  exact headsW ks [{ x with kids := (ks.length : Int) }] h


/-- Parts that were read one behind the other. -/
def Chain (L : List Tk) : List (List Nd) → Nat → Nat → Prop
  | [], i, j => i = j
  | t :: us, i, j => ∃ k, RdC L .part t i k ∧ Chain L us k j
theorem Chain.app : ∀ {a b : List (List Nd)} {i j : Nat}, Chain L (a ++ b) i j → ∃ k, Chain L a i k ∧ Chain L b k j
  | [], b, i, j, h => ⟨i, rfl, h⟩
  | t :: a, b, i, j, ⟨k, h1, h2⟩ => by
    obtain ⟨m, h3, h4⟩ := Chain.app h2
    exact ⟨m, ⟨k, h1, h3⟩, h4⟩
theorem parts_of : ∀ (n : Nat) (l l' : List Nd) (i j : Nat), PL L (List.replicate n (.nd .part)) l l' i j → ∃ us : List (List Nd), us.length = n ∧ l = us.flatten ++ l' ∧ (∀ u ∈ us, endW 1 (kidsOf u) = some u.length) ∧ Chain L us i j
  | 0, l, l', i, j, h => by
    obtain ⟨rfl, rfl⟩ := PL.nil h
    exact ⟨[], rfl, rfl, (fun u hu => by cases hu), rfl⟩
  | n + 1, l, l', i, j, h => by
    obtain ⟨l1, k, h1, h2⟩ := PL.nd (A := List.replicate n (.nd .part)) h
    obtain ⟨us, u1, u2, u3, u4⟩ := parts_of n l1 l' k j h2
    obtain ⟨t, e, ht⟩ := rds_all (L := L) (l.length + 1) .part l l1 i k (Nat.lt_succ_self _) h1
    refine ⟨t :: us, by rw [List.length_cons, u1], by rw [e, u2]; simp, fun u hu => ?_, k, ht, u4⟩
    rcases List.mem_cons.1 hu with rfl | hu
    · exact pl_whole h1 e
    · exact u3 u hu
theorem funs_go (x : Nd) : ∀ (us : List (List Nd)) (m i j : Nat), (∀ u ∈ us, headK u = 3) → Chain L us i j → ∀ K V, To L (.run (.funs x m :: K) V i) (.run (.funs x (m + us.length) :: K) (us.reverse ++ V) j)
  | [], m, i, j, _, h, K, V => by cases h; exact To.refl _
  | t :: us, m, i, j, hh, ⟨k, h1, h2⟩, K, V => by
    obtain ⟨q, ht⟩ := h1.2 (hh t (by simp))
    have s1 : one L (.funs x m) V i = some ([.funN, .funs x (m + 1)], V, i + 1) := one_funs q
    have s2 := funs_go x us (m + 1) k j (fun u hu => hh u (by simp [hu])) h2 K (t :: V)
    rw [show m + 1 + us.length = m + (t :: us).length by rw [List.length_cons]; omega] at s2
    rw [List.reverse_cons, List.append_assoc]
    exact ((to_some (A := K) s1).trans (ht _ V)).trans s2
theorem uses_go (x : Nd) : ∀ (us : List (List Nd)) (m i j : Nat), (∀ u ∈ us, headK u = 2) → Chain L us i j → ∀ K V, To L (.run (.uses x m :: K) V i) (.run (.uses x (m + us.length) :: K) (us.reverse ++ V) j)
  | [], m, i, j, _, h, K, V => by cases h; exact To.refl _
  | t :: us, m, i, j, hh, ⟨k, h1, h2⟩, K, V => by
    obtain ⟨q, ht⟩ := h1.1 (hh t (by simp))
    have s1 : one L (.uses x m) V i = some ([.useN, .uses x (m + 1)], V, i + 1) := one_uses q
    have s2 := uses_go x us (m + 1) k j (fun u hu => hh u (by simp [hu])) h2 K (t :: V)
    rw [show m + 1 + us.length = m + (t :: us).length by rw [List.length_cons]; omega] at s2
    rw [List.reverse_cons, List.append_assoc]
    exact ((to_some (A := K) s1).trans (ht _ V)).trans s2
theorem sg_over {i : Nat} (h : L.length ≤ i) : Pa.sg L i = [] := by unfold Pa.sg; rw [List.getElem?_eq_none h]
/-- What was written of a right tree is read as it. -/
theorem mod_read {t : List Nd} {ts : List Tk} (hc : (checkL t).1 = 0) (h : Prn [.nd .mod] t ts []) (hL : Lay L 0 ts) (hn : L.length = ts.length) : To L (.run [.mod] [] 0) (.fin [t]) := by
  have hp : PL L [.nd .mod] t [] 0 L.length := ⟨ts, h, hL, by omega⟩
  obtain ⟨x, r, rfl, hcat, hk, hf, h1⟩ := hp.node
  obtain ⟨-, -, -, -, hg⟩ := check_ok hc
  have hg0 := hg 0 (Nat.zero_lt_succ _)
  obtain ⟨k, d, q, z, s⟩ := x
  obtain rfl : k = 1 := eq_of_beq (show (k == 1) = true from hcat)
  obtain ⟨⟨⟨hnm, hz⟩, hz2⟩, rfl⟩ : ((isName q = true ∧ 1 ≤ z) ∧ z ≤ 2147483647) ∧ s = [] := by simpa [fieldsP] using hf
  change PL L ([sg [109, 111, 100, 117, 108, 101], nm q, it z, sg [59]] ++ List.replicate d.toNat (.nd .part)) r [] 0 L.length at h1
  change d = (((cats ([sg [109, 111, 100, 117, 108, 101], nm q, it z, sg [59]] ++ List.replicate d.toNat (.nd .part))).length : Nat) : Int) at hk
  rw [cats_app, cats_rep, List.length_append, List.length_replicate] at hk
  obtain ⟨h2, h3⟩ := PL.tok (A := nm q :: it z :: sg [59] :: List.replicate d.toNat (.nd .part)) h1
  obtain ⟨h4, h5⟩ := h3.tok
  obtain ⟨h6, h7⟩ := h5.tok
  obtain ⟨h8, h9⟩ := h7.tok
  obtain ⟨us, u1, u2, u3, u4⟩ := parts_of d.toNat r [] _ _ h9
  rw [List.append_nil] at u2
  have hkl : d = (us.length : Int) := by
    rw [u1]
    have h0 : (cats [sg [109, 111, 100, 117, 108, 101], nm q, it z, sg [59]]).length = 0 := rfl
    omega
  have ej := join_of (x := ⟨1, d, q, z, []⟩) (y := ⟨1, 0, q, z, []⟩) (us := us) hkl rfl
  rw [u2] at hg0 ⊢
  rw [← ej] at hg0 ⊢
  have hm : matchG (groupsL 1) (kindsL (join ⟨1, 0, q, z, []⟩ us) 0) = true := by
    unfold goodAt at hg0
    rw [Bool.and_eq_true] at hg0
    exact hg0.2
  rw [kindsL_joinW u3] at hm
  obtain ⟨K1, K2, e, a1, -, -, a4, -, -⟩ := matchG_two (f := .k 2) (lo := 0) (hi := 2000) (f' := .k 3) (lo' := 0) (hi' := 2000) hm
  have hu : us = us.take K1.length ++ us.drop K1.length := (List.take_append_drop _ _).symm
  have e1 : (us.take K1.length).map headK = K1 := by rw [List.map_take, e, List.take_left]
  have e2 : (us.drop K1.length).map headK = K2 := by rw [List.map_drop, e, List.drop_left]
  rw [hu] at u4
  obtain ⟨k, c1, c2⟩ := Chain.app u4
  have g1 := uses_go ⟨1, 0, q, z, []⟩ (us.take K1.length) 0 _ k (fun u hm => eq_of_beq (a1 (headK u) (by rw [← e1]; exact List.mem_map_of_mem hm))) c1 [] []
  have g2 := funs_go ⟨1, 0, q, z, []⟩ (us.drop K1.length) (0 + (us.take K1.length).length) k _ (fun u hm => eq_of_beq (a4 (headK u) (by rw [← e2]; exact List.mem_map_of_mem hm))) c2 [] ((us.take K1.length).reverse ++ [])
  have hsg : Pa.sg L k ≠ [117, 115, 101] := by
    cases hd : us.drop K1.length with
    | nil =>
      rw [hd] at c2
      have : k = L.length := c2
      rw [sg_over (by omega)]; decide
    | cons u ur =>
      rw [hd] at c2
      obtain ⟨k2, d1, -⟩ := c2
      have := (d1.2 (eq_of_beq (a4 (headK u) (by rw [← e2, hd]; simp)))).1
      rw [this]; decide
  have s1 : one L .mod [] 0 = some ([.mark [109, 111, 100, 117, 108, 101], .modN], [], 0) := rfl
  have s2 := s_need (a := .modN) (B := fun t => [.modI t]) h4 (fun _ => rfl) [] []
  have s3 := s_need2 (a := .modI q) (B := fun n => [.mark [59], .uses { Pa.nd 1 with name := q, n := n } 0]) h6 (fun _ => rfl) [] []
  have s4 : one L (.uses ⟨1, 0, q, z, []⟩ (0 + (us.take K1.length).length)) ((us.take K1.length).reverse ++ []) k = some ([.funs ⟨1, 0, q, z, []⟩ (0 + (us.take K1.length).length)], (us.take K1.length).reverse ++ [], k) := one_uses_no hsg
  have s5 : ∀ V, one L (.funs ⟨1, 0, q, z, []⟩ (0 + (us.take K1.length).length + (us.drop K1.length).length)) V L.length = some ([.mk ⟨1, 0, q, z, []⟩ (0 + (us.take K1.length).length + (us.drop K1.length).length)], V, L.length) := fun V => one_funs_no (by rw [sg_over (Nat.le_refl _)]; decide)
  have s6 := s_mk (L := L) ⟨1, 0, q, z, []⟩ us [] [] L.length
  have t1 := (((to_some (A := []) s1).trans (s_mark h2.sgn.1 _ [])).trans s2).trans s3
  have t2 := (t1.trans (s_mark h8.sgn.1 _ [])).trans g1
  have t3 := (t2.trans (to_some (A := []) s4)).trans g2
  have t4 := t3.trans (to_some (A := []) (s5 _))
  have el : 0 + (us.take K1.length).length + (us.drop K1.length).length = us.length := by
    have := congrArg List.length hu
    rw [List.length_append] at this
    omega
  have er : (us.drop K1.length).reverse ++ ((us.take K1.length).reverse ++ []) = us.reverse ++ [] := by
    rw [List.append_nil, List.append_nil, ← List.reverse_append, ← hu]
  rw [el, er] at t4
  refine (t4.trans s6).trans (To.head ⟨0, ?_⟩)
  show (if L.length = L.length then Cfg.fin [join ⟨1, 0, q, z, []⟩ us] else Cfg.bad L.length) = _
  rw [if_pos rfl]

end Go.Proofs.YtemlceicmpcboaaGreatDoor.Sw
