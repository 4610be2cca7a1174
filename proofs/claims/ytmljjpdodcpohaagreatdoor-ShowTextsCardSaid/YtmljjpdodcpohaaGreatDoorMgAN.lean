/- The tokens of a tree, by definition over what is still to be written; what is so of each; What is so of every tree that the machine reads. No condition but those that each states. -/
import Derived.Test.YtmljjpdodcpohaaGreatDoorMgAJ
import Derived.Test.YtmljjpdodcpohaaGreatDoorMgAM
import Derived.Lib.ItoaNum
namespace Go.Proofs.YtmljjpdodcpohaaGreatDoor.Sw
open Lx Tr Pa
def sgn (q : List UInt8) : Tk := ⟨if isKey q then 5 else 4, q, 0, 0⟩
def nmT (q : List UInt8) : Tk := ⟨1, q, 0, 0⟩
def inT (n : Int) : Tk := ⟨2, Lib.itoa n, n, 0⟩
def txT (q : List UInt8) : Tk := ⟨3, q, 0, 0⟩
inductive Cat where
  | mod
  | part
  | par
  | blk
  | st
  | ex
deriving DecidableEq
def catP : Cat → Int → Bool
  | .mod, k => k == 1
  | .part, k => k == 2 || k == 3
  | .par, k => k == 4
  | .blk, k => k == 5
  | .st, k => isStmt k
  | .ex, k => isExpr k
inductive PSy where
  | tok (t : Tk)
  | nd (c : Cat)
abbrev sg (q : List UInt8) : PSy := .tok (sgn q)
abbrev nm (q : List UInt8) : PSy := .tok (nmT q)
abbrev it (n : Int) : PSy := .tok (inT n)
def sepX (c : Cat) : Nat → List PSy
  | 0 => []
  | n + 1 => sg [44] :: .nd c :: sepX c n
def lstX (c : Cat) : Nat → List PSy
  | 0 => [sg [40], sg [41]]
  | n + 1 => sg [40] :: .nd c :: (sepX c n ++ [sg [41]])
def fnX (k : Nat) : List PSy := lstX .par (k - 1) ++ [.nd .blk]
def expX (x : Nd) : List PSy :=
  if x.kind = 1 then [sg [109, 111, 100, 117, 108, 101], nm x.name, it x.n, sg [59]] ++ List.replicate x.kids.toNat (.nd .part)
  else if x.kind = 2 then [sg [117, 115, 101], nm x.name, sg [46], nm x.text, sg [47], it x.n, sg [59]]
  else if x.kind = 3 then [sg [102, 110], nm x.name] ++ fnX x.kids.toNat
  else if x.kind = 4 then [nm x.name]
  else if x.kind = 5 then sg [123] :: (List.replicate x.kids.toNat (.nd .st) ++ [sg [125]])
  else if x.kind = 6 then [sg [108, 101, 116], nm x.name, sg [61], .nd .ex, sg [59]]
  else if x.kind = 7 then [nm x.name, sg [61], .nd .ex, sg [59]]
  else if x.kind = 8 then [.nd .ex, sg [91], .nd .ex, sg [93], sg [61], .nd .ex, sg [59]]
  else if x.kind = 9 then [sg [105, 102], .nd .ex, .nd .blk] ++ (if 2 < x.kids then [sg [101, 108, 115, 101], .nd .blk] else [])
  else if x.kind = 10 then [sg [119, 104, 105, 108, 101], .nd .ex, .nd .blk]
  else if x.kind = 11 then [sg [98, 114, 101, 97, 107], sg [59]]
  else if x.kind = 12 then [sg [99, 111, 110, 116, 105, 110, 117, 101], sg [59]]
  else if x.kind = 13 then [sg [114, 101, 116, 117, 114, 110], .nd .ex, sg [59]]
  else if x.kind = 14 then [sg [112, 117, 116], .nd .ex, sg [59]]
  else if x.kind = 15 then [sg [101, 109, 105, 116], .nd .ex, sg [59]]
  else if x.kind = 16 then [sg [121, 105, 101, 108, 100], sg [59]]
  else if x.kind = 17 then [.nd .ex, sg [59]]
  else if x.kind = 18 then [sg [110, 105, 108]]
  else if x.kind = 19 then [it x.n]
  else if x.kind = 20 then [.tok (txT x.text)]
  else if x.kind = 21 then [nm x.name]
  else if x.kind = 22 then .nd .ex :: lstX .ex (x.kids.toNat - 1)
  else if x.kind = 23 then [nm x.name, sg [46], nm x.text] ++ lstX .ex x.kids.toNat
  else if x.kind = 24 then sg [102, 110] :: fnX x.kids.toNat
  else if x.kind = 25 then [sg [123], sg [125]]
  else if x.kind = 26 then [.nd .ex, sg [91], .nd .ex, sg [93]]
  else if x.kind = 27 then [sg [40], .nd .ex, sg x.text, .nd .ex, sg [41]]
  else if x.kind = 28 then [sg [40], sg x.text, .nd .ex, sg [41]]
  else if x.kind = 29 then [sg [115, 116, 97, 116, 101]]
  else if x.kind = 30 then [sg [40], sg [115, 112, 97, 119, 110], .nd .ex, sg [41]]
  else []
def cats : List PSy → List Cat
  | [] => []
  | .tok _ :: A => cats A
  | .nd c :: A => c :: cats A
theorem cats_app (A B : List PSy) : cats (A ++ B) = cats A ++ cats B := by
  induction A with
  | nil => rfl
  | cons a A ih => cases a <;> simp [cats, ih]
theorem cats_rep (c : Cat) : ∀ n, cats (List.replicate n (.nd c)) = List.replicate n c
  | 0 => rfl
  | n + 1 => by rw [List.replicate_succ, List.replicate_succ]; show c :: cats _ = _; rw [cats_rep c n]
theorem cats_sep (c : Cat) : ∀ n, cats (sepX c n) = List.replicate n c
  | 0 => rfl
  | n + 1 => by show c :: cats (sepX c n) = _; rw [cats_sep c n, List.replicate_succ]
theorem cats_lst (c : Cat) : ∀ n, cats (lstX c n) = List.replicate n c
  | 0 => rfl
  | n + 1 => by
    show c :: cats (sepX c n ++ [sg [41]]) = _
    rw [cats_app, cats_sep, List.replicate_succ]; simp [cats]
theorem cats_fn (k : Nat) : cats (fnX k) = List.replicate (k - 1) .par ++ [.blk] := by unfold fnX; rw [cats_app, cats_lst]; rfl
inductive Prn : List PSy → List Nd → List Tk → List Nd → Prop
  | nil (l : List Nd) : Prn [] l [] l
  | tok {A : List PSy} {l : List Nd} {ts : List Tk} {l' : List Nd} (t : Tk) (h : Prn A l ts l') : Prn (.tok t :: A) l (t :: ts) l'
  | nd {A : List PSy} {l : List Nd} {ts : List Tk} {l' : List Nd} (c : Cat) (x : Nd) (hc : catP c x.kind = true) (hk : x.kids = ((cats (expX x)).length : Int)) (hf : fieldsP x = true) (h : Prn (expX x ++ A) l ts l') : Prn (.nd c :: A) (x :: l) ts l'
theorem Prn.split {C : List PSy} {l l2 : List Nd} {ts : List Tk} (h : Prn C l ts l2) : ∀ A B, C = A ++ B → ∃ t1 t2 l1, ts = t1 ++ t2 ∧ Prn A l t1 l1 ∧ Prn B l1 t2 l2 := by
  induction h with
  | nil l =>
    intro A B e; obtain ⟨rfl, rfl⟩ := List.append_eq_nil_iff.1 e.symm; exact ⟨[], [], l, rfl, .nil l, .nil l⟩
  | @tok A0 l ts l' t h ih =>
    intro A B e; cases A with
    | nil => rw [List.nil_append] at e; exact ⟨[], _, l, rfl, .nil l, by rw [← e]; exact .tok t h⟩
    | cons a A =>
      rw [List.cons_append] at e; obtain ⟨rfl, e'⟩ := List.cons.inj e; obtain ⟨t1, t2, l1, rfl, h1, h2⟩ := ih A B e'; exact ⟨t :: t1, t2, l1, rfl, .tok t h1, h2⟩
  | @nd A0 l ts l' c x hc hk hf h ih =>
    intro A B e; cases A with
    | nil => rw [List.nil_append] at e; exact ⟨[], _, _, rfl, .nil _, by rw [← e]; exact .nd c x hc hk hf h⟩
    | cons a A =>
      rw [List.cons_append] at e; obtain ⟨rfl, e'⟩ := List.cons.inj e; obtain ⟨t1, t2, l1, rfl, h1, h2⟩ := ih (expX x ++ A) B (by rw [e', List.append_assoc]); exact ⟨t1, t2, l1, rfl, .nd c x hc hk hf h1, h2⟩
theorem Prn.join {A B : List PSy} {l l1 l2 : List Nd} {t1 t2 : List Tk} (h : Prn A l t1 l1) (k : Prn B l1 t2 l2) : Prn (A ++ B) l (t1 ++ t2) l2 := by
  induction h with
  | nil l => exact k
  | tok t h ih => exact .tok t (ih k)
  | nd c x hc hk hf h ih =>
    have h1 := ih k; rw [List.append_assoc] at h1; exact .nd c x hc hk hf h1
theorem Prn.tok_inv {t : Tk} {A : List PSy} {l l' : List Nd} {ts : List Tk} (h : Prn (.tok t :: A) l ts l') : ∃ ts', ts = t :: ts' ∧ Prn A l ts' l' := by
  cases h with | tok _ h => exact ⟨_, rfl, h⟩
theorem Prn.nd_inv {c : Cat} {l l' : List Nd} {ts : List Tk} (h : Prn [.nd c] l ts l') : ∃ x r, l = x :: r ∧ catP c x.kind = true ∧ x.kids = ((cats (expX x)).length : Int) ∧ fieldsP x = true ∧ Prn (expX x) r ts l' := by
  cases h with | nd _ x hc hk hf h => exact ⟨x, _, rfl, hc, hk, hf, by rw [List.append_nil] at h; exact h⟩
theorem Prn.nd_cons {c : Cat} {A : List PSy} {l l' : List Nd} {ts : List Tk} (h : Prn (.nd c :: A) l ts l') : ∃ t1 t2 l1, ts = t1 ++ t2 ∧ Prn [.nd c] l t1 l1 ∧ Prn A l1 t2 l' := h.split [.nd c] A rfl
theorem Prn.ends {A : List PSy} {l l' : List Nd} {ts : List Tk} (h : Prn A l ts l') : ∃ n, endW (cats A).length (kidsOf l) = some n ∧ l' = l.drop n := by
  induction h with
  | nil l => exact ⟨0, endW_zero _, by rw [List.drop_zero]⟩
  | tok t h ih => exact ih
  | @nd A l ts l' c x hc hk hf h ih =>
    obtain ⟨n, h1, h2⟩ := ih; refine ⟨n + 1, ?_, by rw [h2]; rfl⟩
    show endW ((cats A).length + 1) (x.kids :: kidsOf l) = _
    rw [endW_cons, if_neg (by omega), hk, Int.toNat_natCast]; rw [cats_app, List.length_append, Nat.add_comm] at h1; rw [h1]; rfl
theorem Prn.less {A : List PSy} {l l' : List Nd} {ts : List Tk} (h : Prn A l ts l') : l'.length + (cats A).length ≤ l.length := by
  obtain ⟨n, h1, rfl⟩ := h.ends; have := endW_le _ _ _ h1; rw [kidsOf_len] at this; rw [List.length_drop]; omega
def okC : List Cat → List Int → Bool
  | [], [] => true
  | c :: cs, k :: ks => catP c k && okC cs ks
  | _, _ => false
theorem okC_app : ∀ (a b : List Cat) (K L : List Int), okC a K = true → okC b L = true → okC (a ++ b) (K ++ L) = true
  | [], b, [], L, _, h2 => h2
  | [], b, _ :: _, L, h1, _ => by cases h1
  | c :: a, b, [], L, h1, _ => by cases h1
  | c :: a, b, k :: K, L, h1, h2 => by
    have h1' : (catP c k && okC a K) = true := h1; rw [Bool.and_eq_true] at h1'; show (catP c k && okC (a ++ b) (K ++ L)) = true
    rw [h1'.1, okC_app a b K L h1'.2 h2]; rfl
theorem okC_rep (c : Cat) : ∀ K : List Int, (∀ k ∈ K, catP c k = true) → okC (List.replicate K.length c) K = true
  | [], _ => rfl
  | k :: K, h => by
    show (catP c k && okC (List.replicate K.length c) K) = true
    rw [h k (by simp), okC_rep c K (fun x hx => h x (by simp [hx]))]; rfl
theorem okC_len : ∀ (a : List Cat) (K : List Int), okC a K = true → a.length = K.length
  | [], [], _ => rfl
  | [], _ :: _, h => by cases h
  | _ :: _, [], h => by cases h
  | c :: a, k :: K, h => by
    have h' : (catP c k && okC a K) = true := h; rw [Bool.and_eq_true] at h'; rw [List.length_cons, List.length_cons, okC_len a K h'.2]
theorem okC_at : ∀ (a : List Cat) (K : List Int), okC a K = true → ∀ (j : Nat) (h1 : j < a.length) (h2 : j < K.length), catP a[j] K[j] = true
  | [], _, _, j, h1, _ => absurd h1 (Nat.not_lt_zero j)
  | _ :: _, [], h, _, _, _ => by cases h
  | c :: a, k :: K, h, j, h1, h2 => by
    have h' : (catP c k && okC a K) = true := h; rw [Bool.and_eq_true] at h'; cases j with
    | zero => exact h'.1
    | succ j => exact okC_at a K h'.2 j (Nat.lt_of_succ_lt_succ h1) (Nat.lt_of_succ_lt_succ h2)
theorem matchG_nil {K : List Int} (h : matchG [] K = true) : K = [] := List.eq_nil_of_length_eq_zero (of_decide_eq_true h)
theorem cntG_hi (pr : Int → Bool) : ∀ (h : Nat) (l : List Int), cntG pr h l ≤ h
  | 0, l => by rw [cntG_zero]; exact Nat.le_refl _
  | h + 1, [] => Nat.zero_le _
  | h + 1, x :: r => by
    have := cntG_hi pr h r; rw [cntG]; split
    · omega
    · exact Nat.zero_le _
theorem matchG_split {g : Gp} {gs : List Gp} {K : List Int} (h : matchG (g :: gs) K = true) : ∃ K1 K2, K = K1 ++ K2 ∧ (∀ k ∈ K1, g.f.pr k = true) ∧ g.lo ≤ (K1.length : Int) ∧ K1.length ≤ g.hi.toNat ∧ matchG gs K2 = true := by
  rw [matchG_cons] at h; split at h
  · cases h
  · rename_i hlo
    have hl := cntG_le g.f.pr g.hi.toNat K; refine ⟨K.take (cntG g.f.pr g.hi.toNat K), K.drop (cntG g.f.pr g.hi.toNat K), (List.take_append_drop _ _).symm, cntG_pr _ _ _, ?_, ?_, h⟩
    · rw [List.length_take, Nat.min_eq_left hl]; omega
    · rw [List.length_take, Nat.min_eq_left hl]; exact cntG_hi _ _ _
theorem matchG_one {f : FK} {lo hi : Int} {K : List Int} (h : matchG [⟨f, lo, hi⟩] K = true) : (∀ k ∈ K, f.pr k = true) ∧ lo ≤ (K.length : Int) ∧ K.length ≤ hi.toNat := by
  obtain ⟨K1, K2, rfl, h1, h2, h3, h4⟩ := matchG_split h; rw [matchG_nil h4, List.append_nil]; exact ⟨h1, h2, h3⟩
theorem matchG_two {f f' : FK} {lo hi lo' hi' : Int} {K : List Int} (h : matchG [⟨f, lo, hi⟩, ⟨f', lo', hi'⟩] K = true) : ∃ K1 K2, K = K1 ++ K2 ∧ (∀ k ∈ K1, f.pr k = true) ∧ lo ≤ (K1.length : Int) ∧ K1.length ≤ hi.toNat ∧ (∀ k ∈ K2, f'.pr k = true) ∧ lo' ≤ (K2.length : Int) ∧ K2.length ≤ hi'.toNat := by
  obtain ⟨K1, K2, rfl, h1, h2, h3, h4⟩ := matchG_split h; obtain ⟨h5, h6, h7⟩ := matchG_one h4; exact ⟨K1, K2, rfl, h1, h2, h3, h5, h6, h7⟩
theorem okC_n {c : Cat} {K : List Int} (n : Nat) (h : ∀ k ∈ K, catP c k = true) (hn : K.length = n) : okC (List.replicate n c) K = true := by rw [← hn]; exact okC_rep c K h
theorem ok_none {gs : List Gp} {K : List Int} {cs : List Cat} (h : matchG gs K = true) (hg : gs = []) (hc : cs = []) : okC cs K = true := by
  subst hg; subst hc; rw [matchG_nil h]; rfl
theorem ok_row {gs : List Gp} {K : List Int} {cs : List Cat} (n : Nat) (h : matchG gs K = true) (hg : gs = [⟨.e, (n : Int), (n : Int)⟩]) (hc : cs = List.replicate n .ex) : okC cs K = true := by
  subst hg; subst hc; obtain ⟨a1, a2, a3⟩ := matchG_one h; exact okC_n (c := .ex) n a1 (by omega)
theorem ok_fn {gs : List Gp} {K : List Int} {cs : List Cat} (h : matchG gs K = true) (hg : gs = [⟨.k 4, 0, 8⟩, ⟨.k 5, 1, 1⟩]) (hc : cs = cats (fnX ((K.length : Nat) : Int).toNat)) : okC cs K = true := by
  subst hg; subst hc; obtain ⟨K1, K2, rfl, a1, a2, a3, a4, a5, a6⟩ := matchG_two h
  have h1 : K2.length = 1 := by
    have : K2.length ≤ 1 := a6; omega
  have hl : (((K1 ++ K2).length : Nat) : Int).toNat - 1 = K1.length := by rw [List.length_append]; omega
  rw [cats_fn, hl]; exact okC_app _ _ _ _ (okC_n (c := .par) _ a1 rfl) (okC_n (c := .blk) 1 a4 h1)
theorem kids_ok {x : Nd} {K : List Int} (hm : matchG (groupsL x.kind) K = true) (hk : x.kids = (K.length : Int)) (h1 : 1 ≤ x.kind) (h2 : x.kind ≤ 30) : okC (cats (expX x)) K = true := by
  obtain ⟨k, d, q, z, s⟩ := x; simp only at hm hk h1 h2; subst hk; have hk : ∃ m : Nat, m < 31 ∧ k = (m : Int) := ⟨k.toNat, by omega, by omega⟩; obtain ⟨m, hm31, rfl⟩ := hk; have e1 : ∀ {k : Int}, (FK.k 2).pr k = true → catP .part k = true := fun h => by show (_ == _ || _ == _) = true; rw [show (_ == (2 : Int)) = true from h]; rfl
  have e2 : ∀ {k : Int}, (FK.k 3).pr k = true → catP .part k = true := fun h => by show (_ == _ || _ == _) = true; rw [show (_ == (3 : Int)) = true from h]; exact Bool.or_true _
  rcases (show m = 1 ∨ m = 2 ∨ m = 3 ∨ m = 4 ∨ m = 5 ∨ m = 6 ∨ m = 7 ∨ m = 8 ∨ m = 9 ∨ m = 10 ∨ m = 11 ∨ m = 12 ∨ m = 13 ∨ m = 14 ∨ m = 15 ∨ m = 16 ∨ m = 17 ∨ m = 18 ∨ m = 19 ∨ m = 20 ∨ m = 21 ∨ m = 22 ∨ m = 23 ∨ m = 24 ∨ m = 25 ∨ m = 26 ∨ m = 27 ∨ m = 28 ∨ m = 29 ∨ m = 30 by omega) with rfl | rfl | rfl | rfl | rfl | rfl | rfl | rfl | rfl | rfl | rfl | rfl | rfl | rfl | rfl | rfl | rfl | rfl | rfl | rfl | rfl | rfl | rfl | rfl | rfl | rfl | rfl | rfl | rfl | rfl
  all_goals first
    | exact ok_none hm rfl rfl
    | exact ok_row 1 hm rfl rfl
    | exact ok_row 2 hm rfl rfl
    | exact ok_row 3 hm rfl rfl
    | exact ok_fn hm rfl rfl
    | skip
  · -- a module
    obtain ⟨K1, K2, rfl, a1, a2, a3, a4, a5, a6⟩ := matchG_two (f := .k 2) (lo := 0) (hi := 2000) (f' := .k 3) (lo' := 0) (hi' := 2000) hm; show okC (cats ([_, _, _, _] ++ List.replicate _ (.nd .part))) _ = true
    rw [cats_app, cats_rep]; exact okC_n (c := .part) _ (fun k hk => (List.mem_append.1 hk).elim (fun h => e1 (a1 k h)) (fun h => e2 (a4 k h))) rfl
  · -- a block
    obtain ⟨a1, a2, a3⟩ := matchG_one (f := .s) (lo := 0) (hi := 2000) hm; show okC (cats (List.replicate _ (.nd .st) ++ [_])) _ = true
    rw [cats_app, cats_rep]; show okC (List.replicate _ Cat.st ++ []) _ = true
    rw [List.append_nil]; exact okC_n (c := .st) _ a1 rfl
  · -- if
    obtain ⟨K1, K2, rfl, a1, a2, a3, a4, a5, a6⟩ := matchG_two (f := .e) (lo := 1) (hi := 1) (f' := .k 5) (lo' := 1) (hi' := 2) hm; have h1 : K1.length = 1 := by simp at a3; omega
    show okC (cats ([_, _, _] ++ (if 2 < ((K1 ++ K2).length : Int) then _ else []))) _ = true
    by_cases h2 : K2.length = 2
    · rw [if_pos (by rw [List.length_append]; omega)]
      exact okC_app [.ex] [.blk, .blk] _ _ (okC_n (c := .ex) 1 a1 h1) (okC_n (c := .blk) 2 a4 h2)
    · rw [if_neg (by rw [List.length_append]; simp at a6; omega)]
      exact okC_app [.ex] [.blk] _ _ (okC_n (c := .ex) 1 a1 h1) (okC_n (c := .blk) 1 a4 (by simp at a6; omega))
  · -- while
    obtain ⟨K1, K2, rfl, a1, a2, a3, a4, a5, a6⟩ := matchG_two (f := .e) (lo := 1) (hi := 1) (f' := .k 5) (lo' := 1) (hi' := 1) hm; exact okC_app [.ex] [.blk] _ _ (okC_n (c := .ex) 1 a1 (by simp at a3; omega)) (okC_n (c := .blk) 1 a4 (by simp at a6; omega))
  · -- a call
    obtain ⟨a1, a2, a3⟩ := matchG_one (f := .e) (lo := 1) (hi := 9) hm; show okC (.ex :: cats (lstX .ex ((K.length : Int).toNat - 1))) K = true
    rw [cats_lst, ← List.replicate_succ]; exact okC_n (c := .ex) _ a1 (by omega)
  · -- a call of another module's
    obtain ⟨a1, a2, a3⟩ := matchG_one (f := .e) (lo := 0) (hi := 8) hm; show okC (cats ([_, _, _] ++ lstX .ex (K.length : Int).toNat)) K = true
    rw [cats_app, cats_lst]; exact okC_n (c := .ex) _ a1 (by omega)
theorem prn_row {l : List Nd} (P : Nat → Nat) : ∀ (A : List PSy) (a : Nat), (∀ j (h : j < (cats A).length), ∃ ts, Prn [.nd (cats A)[j]] (l.drop (P (a + j))) ts (l.drop (P (a + j + 1)))) → ∃ ts, Prn A (l.drop (P a)) ts (l.drop (P (a + (cats A).length)))
  | [], a, _ => ⟨[], .nil _⟩
  | .tok t :: A, a, h => by
    obtain ⟨ts, h1⟩ := prn_row P A a h; exact ⟨t :: ts, .tok t h1⟩
  | .nd c :: A, a, h => by
    obtain ⟨t1, h1⟩ := h 0 (Nat.zero_lt_succ _)
    obtain ⟨t2, h2⟩ := prn_row P A (a + 1) (fun j hj => by
      have := h (j + 1) (Nat.succ_lt_succ hj); rw [show a + 1 + j = a + (j + 1) by omega]
      exact this)
    refine ⟨t1 ++ t2, ?_⟩; rw [show a + (cats (.nd c :: A)).length = a + 1 + (cats A).length by show a + ((cats A).length + 1) = _; omega]
    exact Prn.join (A := [.nd c]) h1 h2
theorem kind_in {c : Cat} {k : Int} (h : catP c k = true) : 1 ≤ k ∧ k ≤ 30 := by
  cases c with
  | mod => have := eq_of_beq (show (k == 1) = true from h); omega
  | part =>
    have h' : (k == 2 || k == 3) = true := h; rw [Bool.or_eq_true, beq_iff_eq, beq_iff_eq] at h'; omega
  | par => have := eq_of_beq (show (k == 4) = true from h); omega
  | blk => have := eq_of_beq (show (k == 5) = true from h); omega
  | st => have h' : isStmt k = true := h; unfold isStmt at h'; simp at h'; omega
  | ex => have h' : isExpr k = true := h; unfold isExpr at h'; simp at h'; omega
theorem prn_tree {ts : List Nd} (hg : ∀ i, i < ts.length → goodAt ts i = true) : ∀ (f i n : Nat) (c : Cat), n < f → endW 1 ((kidsOf ts).drop i) = some n → catP c (kindAt ts (i : Int)) = true → ∃ o, Prn [.nd c] (ts.drop i) o (ts.drop (i + n))
  | 0, _, _, _, hf, _, _ => absurd hf (Nat.not_lt_zero _)
  | f + 1, i, n, c, hf, h, hc => by
    obtain ⟨k, hk, hk0, hF, hn1⟩ := endW_node h; have hle := endW_le _ _ _ h; rw [List.length_drop, kidsOf_len] at hle; have hi : i < ts.length := by omega
    have hkk : ts[i].kids = k := by rw [kidsOf_at hi] at hk; exact Option.some.inj hk
    obtain ⟨q, rfl⟩ : ∃ q : Nat, k = (q : Int) := ⟨k.toNat, by omega⟩; rw [Int.toNat_natCast] at hF; have hkd : kindAt ts (i : Int) = ts[i].kind := by unfold kindAt; simp [hi]
    rw [hkd] at hc; have hgi := hg i hi; unfold goodAt at hgi; rw [Bool.and_eq_true, hkd] at hgi; have hx : ts.getD i Nd.zero = ts[i] := by simp [hi]
    rw [hx] at hgi
    have hK : kindsL ts (i : Int) = ((List.range q).map fun j => kindAt ts ((pos (kidsOf ts) (i + 1) j : Nat) : Int)) := by
      unfold kindsL; rw [kidsZ_some h hk, Int.toNat_natCast]; unfold posZ; rw [List.map_map, List.map_map]; rfl
    have hlen : (kindsL ts (i : Int)).length = q := by rw [hK]; simp
    obtain ⟨a1, a2⟩ := kind_in hc; have hok := kids_ok hgi.2 (by rw [hlen]; exact hkk) a1 a2
    have hcl := okC_len _ _ hok; rw [hlen] at hcl
    obtain ⟨o, ho⟩ := prn_row (l := ts) (pos (kidsOf ts) (i + 1)) (expX ts[i]) 0 (fun j hj => by
      rw [hcl] at hj; obtain ⟨m, t1, t2, t3, t4⟩ := pos_tree hF hj; have hca := okC_at _ _ hok j (by rw [hcl]; exact hj) (by rw [hlen]; exact hj)
      have e : (kindsL ts (i : Int))[j]'(by rw [hlen]; exact hj) = kindAt ts ((pos (kidsOf ts) (i + 1) j : Nat) : Int) := by
        simp only [hK, List.getElem_map, List.getElem_range]
      rw [e] at hca; rw [Nat.zero_add, t3]; have hge := (pos_at hF j (by omega)).2.2
      exact prn_tree hg f _ m _ (by omega) t1 hca)
    rw [Nat.zero_add, hcl, pos_end hF] at ho; refine ⟨o, ?_⟩; rw [List.drop_eq_getElem_cons hi]; refine .nd c ts[i] hc (by rw [hkk, hcl]) hgi.1 ?_; rw [List.append_nil, show i + n = i + 1 + (n - 1) by omega]; exact ho
theorem prn_all {ts : List Nd} (h : (checkL ts).1 = 0) : ∃ o, Prn [.nd .mod] ts o [] := by
  obtain ⟨h1, h2, h3, h4, h5⟩ := check_ok h; obtain ⟨o, ho⟩ := prn_tree h5 (ts.length + 1) 0 ts.length .mod (Nat.lt_succ_self _) h3 (by show (kindAt ts 0 == 1) = true; rw [h4]; rfl)
  rw [List.drop_zero, Nat.zero_add, List.drop_length] at ho; exact ⟨o, ho⟩
end Go.Proofs.YtmljjpdodcpohaaGreatDoor.Sw

namespace Go.Proofs.YtmljjpdodcpohaaGreatDoor.Pa
open Lx Tr
def TkS (K : Nat) (L : List Tk) : Prop := ∀ t ∈ L, t.text.length ≤ K
def NdS (K : Nat) (x : Nd) : Prop := x.name.length ≤ K ∧ x.text.length ≤ K
theorem tx_short {K : Nat} {L : List Tk} (h : TkS K L) (i : Nat) : (tx L i).length ≤ K := by
  unfold tx; split
  · rename_i t ht; exact h t (List.mem_of_getElem? ht)
  · exact Nat.zero_le _
theorem sg_short {K : Nat} {L : List Tk} (h : TkS K L) (i : Nat) : (sg L i).length ≤ K := by
  unfold sg; split
  · rename_i t ht
    split
    · exact h t (List.mem_of_getElem? ht)
    · exact Nat.zero_le _
  · exact Nat.zero_le _
def NdP (K : Nat) (y : Nd) : Prop := (y.kind = 26 → y.kids = 2) ∧ NdS K y
structure Tok (K : Nat) (t : List Nd) : Prop where
  whole : endW 1 (kidsOf t) = some t.length
  nodes : ∀ y ∈ t, NdP K y
def good (K : Nat) : Sy → Prop
  | .mk x m => (x.kind = 26 → m = 2) ∧ NdS K x
  | .lF _ x _ => x.kind ≠ 26 ∧ NdS K x
  | .lN _ x _ => x.kind ≠ 26 ∧ NdS K x
  | .lC _ x _ => x.kind ≠ 26 ∧ NdS K x
  | .fn x => x.kind ≠ 26 ∧ NdS K x
  | .uses x _ => x.kind ≠ 26 ∧ NdS K x
  | .funs x _ => x.kind ≠ 26 ∧ NdS K x
  | .outer a => a.length ≤ K
  | .outN a => a.length ≤ K
  | .modI a => a.length ≤ K
  | .useM a => a.length ≤ K
  | .useI a b => a.length ≤ K ∧ b.length ≤ K
  | _ => True
theorem whole_many : ∀ (ts : List (List Nd)), (∀ t ∈ ts, endW 1 (kidsOf t) = some t.length) → endW ts.length (kidsOf ts.flatten) = some ts.flatten.length
  | [], _ => rfl
  | t :: ts, h => by
    have h1 := h t (List.mem_cons_self ..); have h2 := whole_many ts (fun u hu => h u (List.mem_cons_of_mem _ hu)); have e : kidsOf (t ++ ts.flatten) = kidsOf t ++ kidsOf ts.flatten := by simp [kidsOf]
    have h3 : endW 1 (kidsOf t ++ kidsOf ts.flatten) = some t.length := endW_app _ _ _ _ h1; rw [List.flatten_cons, e, List.length_cons, Nat.add_comm, endW_add, h3]; show (endW ts.length ((kidsOf t ++ kidsOf ts.flatten).drop t.length)).map (t.length + ·) = _
    rw [List.drop_append_of_le_length (by rw [kidsOf_len]; exact Nat.le_refl _), List.drop_of_length_le (by rw [kidsOf_len]; exact Nat.le_refl _), List.nil_append, h2]
    simp
theorem tok_join {K : Nat} {x : Nd} {ts : List (List Nd)} (h : ∀ t ∈ ts, Tok K t) (hx : x.kind = 26 → ts.length = 2) (hs : NdS K x) : Tok K (join x ts) := by
  refine ⟨?_, ?_⟩
  · show endW (0 + 1) ((ts.length : Int) :: kidsOf ts.flatten) = some (ts.flatten.length + 1)
    rw [endW_cons, if_neg (by omega), Nat.zero_add, Int.toNat_natCast, whole_many ts (fun t ht => (h t ht).whole)]; rfl
  · intro y hy
    rcases List.mem_cons.1 hy with rfl | hy
    · exact ⟨fun e => by show (ts.length : Int) = 2; rw [hx e]; rfl, hs⟩
    · obtain ⟨t, ht, hyt⟩ := List.mem_flatten.1 hy
      exact (h t ht).nodes y hyt
theorem tok_two {K : Nat} {x : Nd} {b : List Nd} (h : Tok K (x :: b)) (hx : x.kind = 26) : Tok K (b.take (firstZ b)) ∧ Tok K (b.drop (firstZ b)) := by
  have hk : x.kids = 2 := (h.nodes x (List.mem_cons_self ..)).1 hx; have hw := h.whole; change endW (0 + 1) (x.kids :: kidsOf b) = some (b.length + 1) at hw; rw [endW_cons, hk, if_neg (by omega)] at hw; rw [show 0 + (2 : Int).toNat = 1 + 1 from rfl, endW_add] at hw; cases h1 : endW 1 (kidsOf b) with
  | none => rw [h1] at hw; cases hw
  | some z =>
    rw [h1] at hw; have hz : firstZ b = z := by unfold firstZ; rw [h1]; rfl
    rw [hz]; have hzl : z ≤ b.length := by have := (endW_le _ _ _ h1).2; rwa [kidsOf_len] at this
    cases h2 : endW 1 ((kidsOf b).drop z) with
    | none =>
      change Option.map (· + 1) ((endW 1 ((kidsOf b).drop z)).map (z + ·)) = _ at hw; rw [h2] at hw; cases hw
    | some u =>
      change Option.map (· + 1) ((endW 1 ((kidsOf b).drop z)).map (z + ·)) = _ at hw; rw [h2] at hw; have hu : z + u + 1 = b.length + 1 := Option.some.inj hw; refine ⟨⟨?_, fun y hy => h.nodes y (List.mem_cons_of_mem _ (List.mem_of_mem_take hy))⟩, ⟨?_, fun y hy => h.nodes y (List.mem_cons_of_mem _ (List.mem_of_mem_drop hy))⟩⟩
      · rw [List.length_take, Nat.min_eq_left hzl]
        have e : kidsOf (b.take z) = (kidsOf b).take z := by simp [kidsOf, List.map_take]
        rw [e]; exact endW_take h1
      · rw [List.length_drop]
        have e : kidsOf (b.drop z) = (kidsOf b).drop z := by simp [kidsOf, List.map_drop]
        rw [e, h2]; exact congrArg some (by omega)
theorem stmtA_good (K : Nat) {s : List UInt8} {A : List Sy} (h : stmtA s = some A) : ∀ b ∈ A, good K b := by
  unfold stmtA at h; repeat' split at h
  all_goals first
    | cases h; done
    | (cases h; intro b hb; simp only [List.mem_cons, List.not_mem_nil, or_false] at hb; rcases hb with rfl | rfl | rfl <;> simp [good, nd, NdS])
    | (cases h; intro b hb; simp only [List.mem_cons, List.not_mem_nil, or_false] at hb; rcases hb with rfl | rfl <;> simp [good, nd, NdS])
    | (cases h; intro b hb; simp only [List.mem_cons, List.not_mem_nil, or_false] at hb; rcases hb with rfl; simp [good, nd, NdS])
theorem primA_good (K : Nat) {s : List UInt8} {A : List Sy} (h : primA s = some A) : ∀ b ∈ A, good K b := by
  unfold primA at h; repeat' split at h
  all_goals first
    | cases h; done
    | (cases h; intro b hb; simp only [List.mem_cons, List.not_mem_nil, or_false] at hb; rcases hb with rfl | rfl <;> simp [good, nd, NdS])
    | (cases h; intro b hb; simp only [List.mem_cons, List.not_mem_nil, or_false] at hb; rcases hb with rfl; simp [good, nd, NdS])
theorem need_some {L : List Tk} {k : Int} {V V' : List (List Nd)} {i j : Nat} {A B : List Sy} (h : need L k V i A = some (B, V', j)) : B = A ∧ V' = V ∧ j = i + 1 := by
  unfold need at h; split at h
  · cases h; exact ⟨rfl, rfl, rfl⟩
  · cases h
theorem one_good {K : Nat} {L : List Tk} (hL : TkS K L) {a : Sy} {B : List Sy} {V V' : List (List Nd)} {i j : Nat} (h : one L a V i = some (B, V', j)) (ha : good K a) (hV : ∀ t ∈ V, Tok K t) : (∀ b ∈ B, good K b) ∧ ∀ t ∈ V', Tok K t := by
  have htx := tx_short hL i; have hsg := sg_short hL i; cases a with
  | prim =>
    change (if kd L i = 2 then _ else if kd L i = 3 then _ else if kd L i = 1 then _ else _) = _ at h; split at h
    · cases h; exact ⟨by simp [good, nd, NdS], hV⟩
    · split at h
      · cases h; exact ⟨by simp [good, nd, NdS, htx], hV⟩
      · split at h
        · cases h; exact ⟨by simp [good, htx], hV⟩
        · cases hp : primA (sg L i) with
          | none => rw [hp] at h; cases h
          | some A => rw [hp] at h; cases h; exact ⟨primA_good K hp, hV⟩
  | stmt =>
    change (match stmtA (sg L i) with | some A => some (A, V, i + 1) | none => _) = _ at h; cases hp : stmtA (sg L i) with
    | none => rw [hp] at h; cases h; exact ⟨by simp [good], hV⟩
    | some A => rw [hp] at h; cases h; exact ⟨stmtA_good K hp, hV⟩
  | asg =>
    change (if sg L i = [61] then _ else _) = _ at h; split at h
    · cases V with
      | nil => cases h
      | cons t V1 =>
        cases t with
        | nil => cases h
        | cons x b =>
          change (if x.kind = 21 then _ else if x.kind = 26 then _ else none) = _ at h; have ht := hV (x :: b) (List.mem_cons_self ..); split at h
          · cases h
            exact ⟨by simp [good, nd, NdS, (ht.nodes x (List.mem_cons_self ..)).2.1], fun t ht => hV t (List.mem_cons_of_mem _ ht)⟩
          · split at h
            · cases h
              rename_i hx
              obtain ⟨h1, h2⟩ := tok_two ht hx; refine ⟨by simp [good, nd, NdS], fun t ht => ?_⟩; rcases List.mem_cons.1 ht with rfl | ht
              · exact h2
              · rcases List.mem_cons.1 ht with rfl | ht
                · exact h1
                · exact hV t (List.mem_cons_of_mem _ ht)
            · cases h
    · cases h; exact ⟨by simp [good, nd, NdS], hV⟩
  | mk x m =>
    change (if m ≤ V.length then some ([], join x (V.take m).reverse :: V.drop m, i) else none) = _ at h; split at h
    · cases h
      refine ⟨by simp, fun t ht => ?_⟩; rcases List.mem_cons.1 ht with rfl | ht
      · refine tok_join (fun u hu => hV u (List.mem_of_mem_take (List.mem_reverse.1 hu))) (fun e => ?_) ha.2
        have := ha.1 e; rw [List.length_reverse, List.length_take]; omega
      · exact hV t (List.mem_of_mem_drop ht)
    · cases h
  | e n =>
    change (if n < 5 then _ else if sg L i = _ then _ else if sg L i ∈ _ then _ else _) = _ at h; repeat' split at h
    all_goals (cases h; exact ⟨by simp [good, nd, NdS, hsg], hV⟩)
  | row n =>
    change (if sg L i ∈ level n then _ else _) = _ at h; split at h
    · cases h
      refine ⟨fun b hb => ?_, hV⟩; rcases List.mem_cons.1 hb with rfl | hb
      · trivial
      · rcases List.mem_cons.1 hb with rfl | hb
        · simp [good, nd, NdS, hsg]
        · split at hb
          · cases hb
          · rw [List.mem_singleton.1 hb]; trivial
    · cases h; exact ⟨by simp, hV⟩
  | post =>
    change (if sg L i = _ then _ else if sg L i = _ then _ else _) = _ at h; repeat' split at h
    all_goals (cases h; exact ⟨by simp [good, nd, NdS], hV⟩)
  | mark s =>
    change (if sg L i = s then _ else none) = _ at h; split at h
    · cases h; exact ⟨by simp, hV⟩
    · cases h
  | outer a =>
    change (if sg L i = [46] then _ else _) = _ at h; have ha' : a.length ≤ K := ha; split at h
    · cases h; exact ⟨by simp [good, ha'], hV⟩
    · cases h; exact ⟨by simp [good, nd, NdS, ha'], hV⟩
  | outN a =>
    have ha' : a.length ≤ K := ha; obtain ⟨rfl, rfl, rfl⟩ := need_some h; exact ⟨by simp [good, nd, NdS, ha', htx], hV⟩
  | lF p x m =>
    obtain ⟨h1, h2⟩ := ha; change (if sg L i = [41] then _ else _) = _ at h; split at h
    · cases h; exact ⟨by simp [good, h1, h2], hV⟩
    · cases h; exact ⟨by cases p <;> simp [good, h1, h2], hV⟩
  | lN p x m =>
    obtain ⟨h1, h2⟩ := ha; change (if sg L i = [44] then _ else if sg L i = [41] then _ else none) = _ at h; split at h
    · cases h; exact ⟨by cases p <;> simp [good, h1, h2], hV⟩
    · split at h
      · cases h; exact ⟨by simp [good, h1, h2], hV⟩
      · cases h
  | lC p x m =>
    obtain ⟨h1, h2⟩ := ha; cases h
    exact ⟨by cases p <;> simp [good, h1, h2], hV⟩
  | par =>
    obtain ⟨rfl, rfl, rfl⟩ := need_some h; exact ⟨by simp [good, nd, NdS, htx], hV⟩
  | fn x =>
    obtain ⟨h1, h2⟩ := ha; cases h
    exact ⟨by simp [good, h1, h2], hV⟩
  | blk => cases h; exact ⟨by simp [good], hV⟩
  | sts m =>
    change (if sg L i = [125] then _ else _) = _ at h; split at h
    all_goals (cases h; exact ⟨by simp [good, nd, NdS], hV⟩)
  | letN =>
    obtain ⟨rfl, rfl, rfl⟩ := need_some h; exact ⟨by simp [good, nd, NdS, htx], hV⟩
  | els =>
    change (if sg L i = _ then _ else _) = _ at h; split at h
    all_goals (cases h; exact ⟨by simp [good, nd, NdS], hV⟩)
  | mod => cases h; exact ⟨by simp [good], hV⟩
  | modN =>
    obtain ⟨rfl, rfl, rfl⟩ := need_some h; exact ⟨by simp [good, htx], hV⟩
  | modI a =>
    have ha' : a.length ≤ K := ha; obtain ⟨rfl, rfl, rfl⟩ := need_some h; exact ⟨by simp [good, nd, NdS, ha'], hV⟩
  | uses x m =>
    obtain ⟨h1, h2⟩ := ha; change (if sg L i = _ then _ else _) = _ at h; split at h
    all_goals (cases h; exact ⟨by simp [good, h1, h2], hV⟩)
  | useN =>
    obtain ⟨rfl, rfl, rfl⟩ := need_some h; exact ⟨by simp [good, htx], hV⟩
  | useM a =>
    have ha' : a.length ≤ K := ha; obtain ⟨rfl, rfl, rfl⟩ := need_some h; exact ⟨by simp [good, ha', htx], hV⟩
  | useI a b =>
    have ha' : a.length ≤ K ∧ b.length ≤ K := ha; obtain ⟨rfl, rfl, rfl⟩ := need_some h; exact ⟨by simp [good, nd, NdS, ha'.1, ha'.2], hV⟩
  | funs x m =>
    obtain ⟨h1, h2⟩ := ha; change (if sg L i = _ then _ else _) = _ at h; split at h
    all_goals (cases h; exact ⟨by simp [good, h1, h2], hV⟩)
  | funN =>
    obtain ⟨rfl, rfl, rfl⟩ := need_some h; exact ⟨by simp [good, nd, NdS, htx], hV⟩
def GoodC (K : Nat) : Cfg → Prop
  | .run A V _ => (∀ a ∈ A, good K a) ∧ ∀ t ∈ V, Tok K t
  | .bad _ => True
  | .fin V => ∀ t ∈ V, Tok K t
theorem step_good {K : Nat} {L : List Tk} (hL : TkS K L) {c : Cfg} (h : GoodC K c) : GoodC K (step L c) := by
  match c, h with
  | .bad i, h => exact h
  | .fin V, h => exact h
  | .run [] V i, h =>
    show GoodC K (if i = L.length then .fin V else .bad i)
    split
    · exact h.2
    · trivial
  | .run (a :: A) V i, h =>
    show GoodC K (match one L a V i with | some (B, V', j) => .run (B ++ A) V' j | none => .bad i)
    cases ho : one L a V i with
    | none => trivial
    | some x =>
      obtain ⟨B, V', j⟩ := x; obtain ⟨h1, h2⟩ := one_good hL ho (h.1 a (List.mem_cons_self ..)) h.2; exact ⟨fun b hb => (List.mem_append.1 hb).elim (h1 b) (fun hb => h.1 b (List.mem_cons_of_mem _ hb)), h2⟩
theorem to_good {K : Nat} {L : List Tk} (hL : TkS K L) {c d : Cfg} (h : To L c d) (hc : GoodC K c) : GoodC K d := by
  obtain ⟨n, rfl⟩ := h; induction n generalizing c with
  | zero => exact hc
  | succ n ih => exact ih (step_good hL hc)
theorem Leads.tok {K : Nat} {L : List Tk} (hL : TkS K L) {a : Sy} {t : List Nd} {i j : Nat} (h : Leads L [a] [] (.ok i) [] [t] (.ok j)) (ha : good K a) : Tok K t := by
  have := to_good hL (h [] []) (show GoodC K (.run ([a] ++ []) ([].reverse ++ []) i) from ⟨fun b hb => by simp at hb; rw [hb]; exact ha, fun t ht => by simp at ht⟩)
  exact this.2 t (by simp)
end Go.Proofs.YtmljjpdodcpohaaGreatDoor.Pa

